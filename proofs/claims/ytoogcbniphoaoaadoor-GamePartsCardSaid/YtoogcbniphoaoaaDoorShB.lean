/- Places and boxes in memory; what Push, Slow and Touch, and the document's, return (layer 10, shape). -/
import Derived.Test.YtoogcbniphoaoaaDoorShA
namespace Go.Proofs.YtoogcbniphoaoaaDoor.Sh
open Go.RowKit Go.Proofs.YtoogcbniphoaoaaDoor.Fx Go.Proofs.YtoogcbniphoaoaaDoor.Tg
set_option linter.unusedVariables false

/-- block b holds just these cells. -/
def At (w : World) (b : Nat) (cs : Array Value) (T : TypeId) : Prop := w.heap[b]? = some (.cells cs T (0, 0))
theorem At.new (w : World) (cs : Array Value) (T : TypeId) : At (w.alloc (.cells cs T)) w.heap.size cs T := heap_alloc_new w _
theorem At.below {w w' : World} {b : Nat} {cs : Array Value} {T : TypeId} (h : At w b cs T) (hb : Below w.heap.size w w') : At w' b cs T := by
  unfold At at h ⊢
  rw [hb.block b (Array.getElem?_eq_some_iff.1 h).1]
  exact h
theorem At.more {w : World} {b : Nat} {cs : Array Value} {T : TypeId} (h : At w b cs T) (o : Obj) : At (w.alloc o) b cs T := h.below (bal (br w) o)
theorem At.drew {w : World} {b : Nat} {cs : Array Value} {T : TypeId} (h : At w b cs T) : At w.drew b cs T := h.below (bd1 (br w))
theorem At.lt {w : World} {b : Nat} {cs : Array Value} {T : TypeId} (h : At w b cs T) : b < w.heap.size := (Array.getElem?_eq_some_iff.1 h).1
theorem At.frozen {w : World} {b : Nat} {cs : Array Value} {T : TypeId} (h : At w b cs T) (j : Nat) : w.frozen? ⟨b, j, none⟩ = false := frozen_of_row w b j _ _ h
theorem At.two {w : World} {b : Nat} {v0 v1 : Value} {T : TypeId} (h : At w b #[v0, v1] T) : w.cell? ⟨b, 0, none⟩ = some v0 ∧ w.cell? ⟨b, 1, none⟩ = some v1 := by
  have hc := fun j => cell_of_row w b j _ _ _ h
  refine ⟨?_, ?_⟩ <;> (rw [hc]; rfl)
theorem At.four {w : World} {b : Nat} {v0 v1 v2 v3 : Value} {T : TypeId} (h : At w b #[v0, v1, v2, v3] T) : w.cell? ⟨b, 0, none⟩ = some v0 ∧ w.cell? ⟨b, 1, none⟩ = some v1 ∧ w.cell? ⟨b, 2, none⟩ = some v2 ∧ w.cell? ⟨b, 3, none⟩ = some v3 := by
  have hc := fun j => cell_of_row w b j _ _ _ h
  refine ⟨?_, ?_, ?_, ?_⟩ <;> (rw [hc]; rfl)
theorem At.set0 {w : World} {b : Nat} {x0 x1 : Value} {T : TypeId} (h : At w b #[x0, x1] T) (v : Value) : At (w.setCell ⟨b, 0, none⟩ v) b #[v, x1] T := heap_setCell_same w b 0 _ _ v h
theorem At.set1 {w : World} {b : Nat} {x0 x1 : Value} {T : TypeId} (h : At w b #[x0, x1] T) (v : Value) : At (w.setCell ⟨b, 1, none⟩ v) b #[x0, v] T := heap_setCell_same w b 1 _ _ v h
theorem At.far {w : World} {b c j : Nat} {cs : Array Value} {T : TypeId} (h : At w b cs T) (hn : b ≠ c) (v : Value) : At (w.setCell ⟨c, j, none⟩ v) b cs T := by
  unfold At at h ⊢
  rw [Below.heap_setCell _ _ _ _ hn]
  exact h
/-- an answer that lies in a block. -/
theorem results_vec {fn : Func} {k : Nat} (h : fn.results = #[.cell k 25]) (tmps : Array Value) (W : World) (b : Nat) (hp : tmps[k]?.getD undef = .pointer (some ⟨b, 0, none⟩)) (v0 v1 : Value) (hA : At W b #[v0, v1] 25) :
    (results fn tmps).run Tryd.prog W = .ok (.agg #[v0, v1]) W := by
  obtain ⟨c0, c1⟩ := hA.two
  simp [results, h, hp, go_sem, c0, c1]
theorem bset {w W : World} (h : Below w.heap.size w W) {b : Nat} (hb : w.heap.size ≤ b) (j : Nat) (v : Value) : Below w.heap.size w (W.setCell ⟨b, j, none⟩ v) := h.setCell hb v

/-- a part of a way, cut to 'm' if the way is longer. -/
def slI (z x y m : Int) : Int := if m < lenI x y then stepI z (lenI x y) m else z
theorem sl_yes (z x y m : Int) (h : m < lenI x y) : slI z x y m = stepI z (lenI x y) m := by unfold slI; rw [if_pos h]
theorem sl_no (z x y m : Int) (h : ¬ m < lenI x y) : slI z x y m = z := by unfold slI; rw [if_neg h]

set_option maxRecDepth 100000 in
theorem slow_c (a b k m : Int) (ha : In32 a) (hb : In32 b) (hk : In32 k) (hm : In32 m) (w : World) :
    Calls Tryd.prog 44 #[vec a b, .int .i32 k, .int .i32 m] w fun e w' => e = .returned (vec (slI (satI (a * k / 65536)) (satI (a * k / 65536)) (satI (b * k / 65536)) m) (slI (satI (b * k / 65536)) (satI (a * k / 65536)) (satI (b * k / 65536)) m)) ∧ Below w.heap.size w w' := by
  have hA := hid (At.new (w.alloc (.cells #[.int .i32 a, .int .i32 b] 25)) #[.int .i32 0, .int .i32 0] 25)
  have hB := hid (bal (bal (br w) (.cells #[.int .i32 a, .int .i32 b] 25)) (.cells #[.int .i32 0, .int .i32 0] 25))
  rw [show (w.alloc (.cells #[.int .i32 a, .int .i32 b] 25)).heap.size = w.heap.size + 1 by simp] at hA
  by_cases hl : m < lenI (satI (a * k / 65536)) (satI (b * k / 65536))
  · rw [sl_yes _ _ _ _ hl, sl_yes _ _ _ _ hl]
    go_enter Tryd.func44, Tryd.ntmps44
    go_wp2_with (first
      | (go_at_call 42; ((with_reducible refine (vscale_c _ _ _ ha hb hk _).mono ?_); rintro e y1 ⟨rfl, h1⟩; have H1 := hid h1; clear h1; have hC := hid ((hA.out.below H1.out).more (.cells #[.int .i32 (satI (a * k / 65536)), .int .i32 (satI (b * k / 65536))] 25)); obtain ⟨c0, c1⟩ := hC.out.two; have f := hC.out.frozen))
      | (go_at_call 56; ((with_reducible refine (length_c _ _ (sat_bd _) (sat_bd _) _).mono ?_); rintro e y2 ⟨rfl, rfl⟩))
      | (go_at_call 57; ((with_reducible refine (step_c _ _ _ (sat_bd _) (sat_bd _) hm _).mono ?_); rintro e y3 ⟨rfl, h3⟩; have H3 := hid h3; clear h3; have hD := hid (hC.out.below H3.out); obtain ⟨d0, d1⟩ := hD.out.two; have g := hD.out.frozen)))
    refine bodyPost_ret (results_vec rfl _ _ (w.heap.size + 1) rfl _ _ ((hD.out.set0 _).set1 _)) rfl ?_
    exact ⟨rfl, bset (bset (bt (bal (bt hB.out H1.out) _) H3.out) (by omega) _ _) (by omega) _ _⟩
  · rw [sl_no _ _ _ _ hl, sl_no _ _ _ _ hl]
    go_enter Tryd.func44, Tryd.ntmps44
    go_wp2_with (first
      | (go_at_call 42; ((with_reducible refine (vscale_c _ _ _ ha hb hk _).mono ?_); rintro e y1 ⟨rfl, h1⟩; have H1 := hid h1; clear h1; have hC := hid ((hA.out.below H1.out).more (.cells #[.int .i32 (satI (a * k / 65536)), .int .i32 (satI (b * k / 65536))] 25)); obtain ⟨c0, c1⟩ := hC.out.two; have f := hC.out.frozen))
      | (go_at_call 56; ((with_reducible refine (length_c _ _ (sat_bd _) (sat_bd _) _).mono ?_); rintro e y2 ⟨rfl, rfl⟩))
      | (go_at_call 57; ((with_reducible refine (step_c _ _ _ (sat_bd _) (sat_bd _) hm _).mono ?_); rintro e y3 ⟨rfl, h3⟩; have H3 := hid h3; clear h3; have hD := hid (hC.out.below H3.out); obtain ⟨d0, d1⟩ := hD.out.two; have g := hD.out.frozen)))
    refine bodyPost_ret (results_vec rfl _ _ (w.heap.size + 1) rfl _ _ ((hC.out.set0 _).set1 _)) rfl ?_
    exact ⟨rfl, bset (bset (bal (bt hB.out H1.out) _) (by omega) _ _) (by omega) _ _⟩

/-- do circles touch? -/
def touchB (a b r c d s : Int) : Bool := nearB (satI (c - a)) (satI (d - b)) (satI (r + s))
set_option maxRecDepth 100000 in
theorem touch_c (a b r c d s : Int) (ha : In32 a) (hb : In32 b) (hr : In32 r) (hc : In32 c) (hd : In32 d) (hs : In32 s) (w : World) :
    Calls Tryd.prog 32 #[vec a b, .int .i32 r, vec c d, .int .i32 s] w fun e w' => e = .returned (.bool (touchB a b r c d s)) ∧ Below w.heap.size w w' := by
  have hB := hid (bal (bal (br w) (.cells #[.int .i32 a, .int .i32 b] 25)) (.cells #[.int .i32 c, .int .i32 d] 25))
  unfold touchB
  go_enter Tryd.func32, Tryd.ntmps32
  go_wp2_with (go_at_call 45; ((with_reducible refine (vsub_c _ _ _ _ hc hd ha hb _).mono ?_); rintro e y1 ⟨rfl, h1⟩; have H1 := hid h1; clear h1))
  go_region_held3 (fun W => W.cell? ⟨y1.heap.size, 0, none⟩ = some (.int .i32 (satI (c - a))) ∧ W.cell? ⟨y1.heap.size, 1, none⟩ = some (.int .i32 (satI (d - b)))) (go_keep) (first
    | (go_at_call 47; ((with_reducible refine (add_c _ _ hr hs _).mono ?_); rintro e w' ⟨rfl, rfl⟩))
    | (go_at_call 46; ((with_reducible refine (near_c _ _ _ (sat_bd _) (sat_bd _) (sat_bd _) _).mono ?_); rintro e w' ⟨rfl, rfl⟩)))
  go_wp2_with fail
  go_ret
  exact ⟨rfl, bd1 (bal (bt hB.out H1.out) _)⟩

end Go.Proofs.YtoogcbniphoaoaaDoor.Sh
