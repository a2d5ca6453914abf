/- Where a key stands among events in order, the event of a key, whether a list is in order (layer 11, event). -/
import Derived.Test.YtoogcbniphoaoaaDoorEvS2
import Derived.Test.YtoogcbniphoaoaaDoorEvKo
import Derived.Test.YtoogcbniphoaoaaDoorEvD
namespace Go.Proofs.YtoogcbniphoaoaaDoor.Ev
open Go.RowKit Go.Sort
set_option linter.unusedVariables false

theorem Gr.set {w W : World} (h : Gr w W) {b : Nat} (hb : w.heap.size ≤ b) (j : Nat) (v : Value) : Gr w (W.setCell ⟨b, j, none⟩ v) := by
  obtain ⟨q, os, rfl⟩ := h
  refine ⟨q, ?_, ?_⟩
  rotate_left
  · unfold World.setCell grow
    simp only
    rw [modify_append_right _ _ _ _ (by exact hb)]

def zeroE : Ev := ⟨⟨0, 0, 0, 0⟩, 0, 0, 0, 0, 0⟩

theorem lo_get {l : List Ev} (hu : up (keys l)) {q : Ky} (hq : q ∈ keys l) : ∃ x, l[lo (keys l) q]? = some x ∧ getK l q = some x := by
  cases hp : (keys l)[lo (keys l) q]? with
  | none =>
    have := has_none hu hp
    rw [decide_eq_false_iff_not] at this
    exact (this hq).elim
  | some p =>
    have h := has_some hu hp
    rw [decide_eq_true hq] at h
    have hpq : p = q := by
      have := h.symm
      rw [beq_iff_eq, cmpK_zero] at this
      exact this
    subst hpq
    simp at hp
    obtain ⟨x, hx, rfl⟩ := hp
    exact ⟨x, hx, getK_mem (up_nodup hu) (List.mem_of_getElem? hx)⟩

set_option maxRecDepth 100000 in
theorem place_c (v : Value) (l : List Ev) (q : Ky) (w : World) (h : Evs w v l) (hu : up (keys l)) (hl : l.length ≤ 4096) :
    Calls Tryd.prog 65 #[v, kv q] w fun e w' => e = .returned (.tuple #[.int .i64 (lo (keys l) q), .bool (decide (q ∈ keys l))]) ∧ Gr w w' := by
  have hS := fun (W : World) (g : Gr w W) => search_c v l q W (h.below g.below) hu hl
  have HS := hid (hS _ (gal (gr w) (.cells #[.int .i64 q.f, .int .i64 q.e, .int .i64 q.k, .int .i64 q.o] 43)))
  clear hS h hu hl
  generalize decide (q ∈ keys l) = B at HS ⊢
  generalize lo (keys l) q = n at HS ⊢
  go_enter Tryd.func65, Tryd.ntmps65
  go_wp2_with (go_at_call 77; ((with_reducible refine HS.out.mono ?_); rintro e w1 ⟨rfl, hB⟩))
  go_ret2
  exact ⟨rfl, gt (gal (gr w) _) hB⟩

theorem results_find {fn : Func} (h : fn.results = #[.cell 4 45, .tmp 5]) (tmps : Array Value) (W : World) (b : Nat) (hp : tmps[4]?.getD undef = .pointer (some ⟨b, 0, none⟩)) (x : Ev) (hA : At W b (ecs x).toArray 45) :
    (results fn tmps).run Tryd.prog W = .ok (.tuple #[ev x, tmps.getD 5 undef]) W := by
  obtain ⟨c0, c1, c2, c3, c4, c5, c6, c7, c8⟩ := hA.nine
  simp [results, h, hp, go_sem, c0, c1, c2, c3, c4, c5, c6, c7, c8]
theorem At.put9 {w : World} {b : Nat} {x0 x1 x2 x3 x4 x5 x6 x7 x8 : Value} {T : TypeId} (h : At w b #[x0, x1, x2, x3, x4, x5, x6, x7, x8] T) (v0 v1 v2 v3 v4 v5 v6 v7 v8 : Value) :
    At (((((((((w.setCell ⟨b, 0, none⟩ v0).setCell ⟨b, 1, none⟩ v1).setCell ⟨b, 2, none⟩ v2).setCell ⟨b, 3, none⟩ v3).setCell ⟨b, 4, none⟩ v4).setCell ⟨b, 5, none⟩ v5).setCell ⟨b, 6, none⟩ v6).setCell ⟨b, 7, none⟩ v7).setCell ⟨b, 8, none⟩ v8) b #[v0, v1, v2, v3, v4, v5, v6, v7, v8] T := by
  have h0 : At (w.setCell ⟨b, 0, none⟩ v0) b #[v0, x1, x2, x3, x4, x5, x6, x7, x8] T := heap_setCell_same _ b 0 _ _ v0 h
  have h1 : At ((w.setCell ⟨b, 0, none⟩ v0).setCell ⟨b, 1, none⟩ v1) b #[v0, v1, x2, x3, x4, x5, x6, x7, x8] T := heap_setCell_same _ b 1 _ _ v1 h0
  have h2 : At (((w.setCell ⟨b, 0, none⟩ v0).setCell ⟨b, 1, none⟩ v1).setCell ⟨b, 2, none⟩ v2) b #[v0, v1, v2, x3, x4, x5, x6, x7, x8] T := heap_setCell_same _ b 2 _ _ v2 h1
  have h3 : At ((((w.setCell ⟨b, 0, none⟩ v0).setCell ⟨b, 1, none⟩ v1).setCell ⟨b, 2, none⟩ v2).setCell ⟨b, 3, none⟩ v3) b #[v0, v1, v2, v3, x4, x5, x6, x7, x8] T := heap_setCell_same _ b 3 _ _ v3 h2
  have h4 : At (((((w.setCell ⟨b, 0, none⟩ v0).setCell ⟨b, 1, none⟩ v1).setCell ⟨b, 2, none⟩ v2).setCell ⟨b, 3, none⟩ v3).setCell ⟨b, 4, none⟩ v4) b #[v0, v1, v2, v3, v4, x5, x6, x7, x8] T := heap_setCell_same _ b 4 _ _ v4 h3
  have h5 : At ((((((w.setCell ⟨b, 0, none⟩ v0).setCell ⟨b, 1, none⟩ v1).setCell ⟨b, 2, none⟩ v2).setCell ⟨b, 3, none⟩ v3).setCell ⟨b, 4, none⟩ v4).setCell ⟨b, 5, none⟩ v5) b #[v0, v1, v2, v3, v4, v5, x6, x7, x8] T := heap_setCell_same _ b 5 _ _ v5 h4
  have h6 : At (((((((w.setCell ⟨b, 0, none⟩ v0).setCell ⟨b, 1, none⟩ v1).setCell ⟨b, 2, none⟩ v2).setCell ⟨b, 3, none⟩ v3).setCell ⟨b, 4, none⟩ v4).setCell ⟨b, 5, none⟩ v5).setCell ⟨b, 6, none⟩ v6) b #[v0, v1, v2, v3, v4, v5, v6, x7, x8] T := heap_setCell_same _ b 6 _ _ v6 h5
  have h7 : At ((((((((w.setCell ⟨b, 0, none⟩ v0).setCell ⟨b, 1, none⟩ v1).setCell ⟨b, 2, none⟩ v2).setCell ⟨b, 3, none⟩ v3).setCell ⟨b, 4, none⟩ v4).setCell ⟨b, 5, none⟩ v5).setCell ⟨b, 6, none⟩ v6).setCell ⟨b, 7, none⟩ v7) b #[v0, v1, v2, v3, v4, v5, v6, v7, x8] T := heap_setCell_same _ b 7 _ _ v7 h6
  have h8 : At (((((((((w.setCell ⟨b, 0, none⟩ v0).setCell ⟨b, 1, none⟩ v1).setCell ⟨b, 2, none⟩ v2).setCell ⟨b, 3, none⟩ v3).setCell ⟨b, 4, none⟩ v4).setCell ⟨b, 5, none⟩ v5).setCell ⟨b, 6, none⟩ v6).setCell ⟨b, 7, none⟩ v7).setCell ⟨b, 8, none⟩ v8) b #[v0, v1, v2, v3, v4, v5, v6, v7, v8] T := heap_setCell_same _ b 8 _ _ v8 h7
  exact h8
theorem Gr.set9 {w W : World} (h : Gr w W) {b : Nat} (hb : w.heap.size ≤ b) (v0 v1 v2 v3 v4 v5 v6 v7 v8 : Value) :
    Gr w (((((((((W.setCell ⟨b, 0, none⟩ v0).setCell ⟨b, 1, none⟩ v1).setCell ⟨b, 2, none⟩ v2).setCell ⟨b, 3, none⟩ v3).setCell ⟨b, 4, none⟩ v4).setCell ⟨b, 5, none⟩ v5).setCell ⟨b, 6, none⟩ v6).setCell ⟨b, 7, none⟩ v7).setCell ⟨b, 8, none⟩ v8) :=
  ((((((((h.set hb _ _).set hb _ _).set hb _ _).set hb _ _).set hb _ _).set hb _ _).set hb _ _).set hb _ _).set hb _ _

theorem all_keys {l : List Ev} (h : l.all evB = true) : (keys l).all keyB = true := by
  rw [List.all_eq_true] at h ⊢
  intro k hk
  obtain ⟨x, hx, rfl⟩ := List.mem_map.1 hk
  have := h x hx
  unfold evB at this
  simp at this
  exact this.1.1.1.1.1

end Go.Proofs.YtoogcbniphoaoaaDoor.Ev
