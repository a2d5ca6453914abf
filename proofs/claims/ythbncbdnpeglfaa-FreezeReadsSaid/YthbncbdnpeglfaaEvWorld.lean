/- Keys and events in memory: blocks of their cells, slices that read as lists of them, lists of the call's own (layer 11, event). -/
import Derived.Test.YthbncbdnpeglfaaEvMath
import Derived.Test.YthbncbdnpeglfaaRows
import Derived.WalkKit
import Derived.RangeFuncBox
import Derived.Deep.Draws
import Derived.Maps.AppendAt
import Derived.Deep.RegionHeld3
import Derived.Handy
import Derived.Shelf.SlSortCmp.QuietGrown
namespace Go.Proofs.Ythbncbdnpeglfaa.Ev
open Go.RowKit
set_option linter.unusedVariables false

theorem hid {p : Prop} (h : p) : Hid p := h
abbrev kcs (k : Ky) : List Value := [.int .i64 k.f, .int .i64 k.e, .int .i64 k.k, .int .i64 k.o]
abbrev ecs (x : Ev) : List Value := [.int .i64 x.key.f, .int .i64 x.key.e, .int .i64 x.key.k, .int .i64 x.key.o, .int .i64 x.a, .int .i64 x.g, .int .i64 x.p, .int .i64 x.r, .int .i64 x.l]
abbrev kv (k : Ky) : Value := .agg #[.int .i64 k.f, .int .i64 k.e, .int .i64 k.k, .int .i64 k.o]
abbrev ev (x : Ev) : Value := .agg #[.int .i64 x.key.f, .int .i64 x.key.e, .int .i64 x.key.k, .int .i64 x.key.o, .int .i64 x.a, .int .i64 x.g, .int .i64 x.p, .int .i64 x.r, .int .i64 x.l]

theorem bal {w W : World} (h : Below w.heap.size w W) (o : Obj) : Below w.heap.size w (W.alloc o) := h.alloc h.size o
theorem bd1 {w W : World} (h : Below w.heap.size w W) : Below w.heap.size w W.drew := ⟨h.os, h.tape, h.output, h.size, h.block⟩
theorem bdn {w W : World} (h : Below w.heap.size w W) (q : Nat) : Below w.heap.size w (W.drewN q) := ⟨h.os, h.tape, h.output, h.size, h.block⟩
theorem bt {a b c : World} (h : Below a.heap.size a b) (k : Below b.heap.size b c) : Below a.heap.size a c := h.trans (k.mono h.size)
theorem br (w : World) : Below w.heap.size w w := Below.refl _ w

/-- the world w with draws and new blocks. -/
def Gr (w w' : World) : Prop := ∃ q os, w' = Go.Sort.grow (w.drewN q) os
theorem Gr.below {w w' : World} (h : Gr w w') : Below w.heap.size w w' := by
  obtain ⟨q, os, rfl⟩ := h
  exact ⟨rfl, rfl, rfl, by simp, fun k hk => Go.Sort.heap_grow_old _ _ hk⟩
theorem Gr.refl (w : World) : Gr w w := ⟨0, #[], by rw [Go.Sort.grow_empty]; rfl⟩
theorem Gr.alloc {w W : World} (h : Gr w W) (o : Obj) : Gr w (W.alloc o) := by
  obtain ⟨q, os, rfl⟩ := h
  exact ⟨q, os ++ #[o], by rw [Go.Sort.alloc_eq_grow, Go.Sort.grow_grow]⟩
theorem Gr.drewN {w W : World} (h : Gr w W) (n : Nat) : Gr w (W.drewN n) := by
  obtain ⟨q, os, rfl⟩ := h
  exact ⟨q + n, os, by simp [World.drewN, Go.Sort.grow, Nat.add_assoc]⟩
theorem Gr.drew {w W : World} (h : Gr w W) : Gr w W.drew := by
  obtain ⟨q, os, rfl⟩ := h
  exact ⟨q + 1, os, by simp [World.drewN, World.drew, Go.Sort.grow, Nat.add_assoc]⟩
theorem Gr.trans {a b c : World} (h : Gr a b) (k : Gr b c) : Gr a c := by
  obtain ⟨q, os, rfl⟩ := h
  obtain ⟨q', os', rfl⟩ := k
  refine ⟨q + q', os ++ os', ?_⟩
  simp [World.drewN, Go.Sort.grow, Nat.add_assoc, Array.append_assoc]

theorem gal {w W : World} (h : Gr w W) (o : Obj) : Gr w (W.alloc o) := h.alloc o
theorem gd1 {w W : World} (h : Gr w W) : Gr w W.drew := h.drew
theorem gdn {w W : World} (h : Gr w W) (q : Nat) : Gr w (W.drewN q) := h.drewN q
theorem gt {a b c : World} (h : Gr a b) (k : Gr b c) : Gr a c := h.trans k
theorem gr (w : World) : Gr w w := Gr.refl w
/-- a cell, in every world that grew out of this one. -/
theorem grown {w : World} {b o : Nat} {v : Value} (hb : b < w.heap.size) (h : w.cell? ⟨b, o, none⟩ = some v) : ∀ (n : Nat) (os : Array Obj), (Go.Sort.grow (w.drewN n) os).cell? ⟨b, o, none⟩ = some v :=
  fun n os => Go.cell_grown hb h n os

/-- block b holds just these cells. -/
def At (w : World) (b : Nat) (cs : Array Value) (T : TypeId) : Prop := w.heap[b]? = some (.cells cs T (0, 0))
theorem At.new (w : World) (cs : Array Value) (T : TypeId) : At (w.alloc (.cells cs T)) w.heap.size cs T := heap_alloc_new w _
theorem At.newAt (w : World) (cs : Array Value) (T : TypeId) {n : Nat} (h : w.heap.size = n) : At (w.alloc (.cells cs T)) n cs T := by subst h; exact At.new w cs T
theorem At.lt {w : World} {b : Nat} {cs : Array Value} {T : TypeId} (h : At w b cs T) : b < w.heap.size := (Array.getElem?_eq_some_iff.1 h).1
theorem At.belowB {w w' : World} {B b : Nat} {cs : Array Value} {T : TypeId} (h : At w b cs T) (hb : Below B w w') (hlt : b < B) : At w' b cs T := by
  unfold At at h ⊢
  rw [hb.block b hlt]
  exact h
theorem At.below {w w' : World} {b : Nat} {cs : Array Value} {T : TypeId} (h : At w b cs T) (hb : Below w.heap.size w w') : At w' b cs T := h.belowB hb h.lt
theorem At.more {w : World} {b : Nat} {cs : Array Value} {T : TypeId} (h : At w b cs T) (o : Obj) : At (w.alloc o) b cs T := h.below (bal (br w) o)
theorem At.drew {w : World} {b : Nat} {cs : Array Value} {T : TypeId} (h : At w b cs T) : At w.drew b cs T := h.below (bd1 (br w))
theorem At.frozen {w : World} {b : Nat} {cs : Array Value} {T : TypeId} (h : At w b cs T) (j : Nat) : w.frozen? ⟨b, j, none⟩ = false := frozen_of_row w b j _ _ h
theorem At.one {w : World} {b : Nat} {v0 : Value} {T : TypeId} (h : At w b #[v0] T) : w.cell? ⟨b, 0, none⟩ = some v0 := by
  rw [cell_of_row w b 0 _ _ _ h]; rfl
theorem At.two {w : World} {b : Nat} {v0 v1 : Value} {T : TypeId} (h : At w b #[v0, v1] T) : w.cell? ⟨b, 0, none⟩ = some v0 ∧ w.cell? ⟨b, 1, none⟩ = some v1 := by
  have hc := fun j => cell_of_row w b j _ _ _ h
  refine ⟨?_, ?_⟩ <;> (rw [hc]; rfl)
theorem At.three {w : World} {b : Nat} {v0 v1 v2 : Value} {T : TypeId} (h : At w b #[v0, v1, v2] T) : w.cell? ⟨b, 0, none⟩ = some v0 ∧ w.cell? ⟨b, 1, none⟩ = some v1 ∧ w.cell? ⟨b, 2, none⟩ = some v2 := by
  have hc := fun j => cell_of_row w b j _ _ _ h
  refine ⟨?_, ?_, ?_⟩ <;> (rw [hc]; rfl)
theorem At.four {w : World} {b : Nat} {v0 v1 v2 v3 : Value} {T : TypeId} (h : At w b #[v0, v1, v2, v3] T) : w.cell? ⟨b, 0, none⟩ = some v0 ∧ w.cell? ⟨b, 1, none⟩ = some v1 ∧ w.cell? ⟨b, 2, none⟩ = some v2 ∧ w.cell? ⟨b, 3, none⟩ = some v3 := by
  have hc := fun j => cell_of_row w b j _ _ _ h
  refine ⟨?_, ?_, ?_, ?_⟩ <;> (rw [hc]; rfl)
theorem At.nine {w : World} {b : Nat} {v0 v1 v2 v3 v4 v5 v6 v7 v8 : Value} {T : TypeId} (h : At w b #[v0, v1, v2, v3, v4, v5, v6, v7, v8] T) : w.cell? ⟨b, 0, none⟩ = some v0 ∧ w.cell? ⟨b, 1, none⟩ = some v1 ∧ w.cell? ⟨b, 2, none⟩ = some v2 ∧ w.cell? ⟨b, 3, none⟩ = some v3 ∧ w.cell? ⟨b, 4, none⟩ = some v4 ∧ w.cell? ⟨b, 5, none⟩ = some v5 ∧ w.cell? ⟨b, 6, none⟩ = some v6 ∧ w.cell? ⟨b, 7, none⟩ = some v7 ∧ w.cell? ⟨b, 8, none⟩ = some v8 := by
  have hc := fun j => cell_of_row w b j _ _ _ h
  refine ⟨?_, ?_, ?_, ?_, ?_, ?_, ?_, ?_, ?_⟩ <;> (rw [hc]; rfl)
/-- of a boxed event, behind a call, the cells behind its key. -/
theorem tail_box {w w1 : World} {x : Ev} {T : TypeId} (hb : Gr (w.alloc (.cells #[.int .i64 x.key.f, .int .i64 x.key.e, .int .i64 x.key.k, .int .i64 x.key.o, .int .i64 x.a, .int .i64 x.g, .int .i64 x.p, .int .i64 x.r, .int .i64 x.l] T)) w1) :
    w1.cell? ⟨w.heap.size, 4, none⟩ = some (.int .i64 x.a) ∧ w1.cell? ⟨w.heap.size, 5, none⟩ = some (.int .i64 x.g) ∧ w1.cell? ⟨w.heap.size, 6, none⟩ = some (.int .i64 x.p) ∧ w1.cell? ⟨w.heap.size, 7, none⟩ = some (.int .i64 x.r) ∧ w1.cell? ⟨w.heap.size, 8, none⟩ = some (.int .i64 x.l) := by
  have h := ((At.new w _ T).below hb.below).nine
  exact h.2.2.2.2

/-- at ao the rows l lie, k cells each. -/
def Row {α : Type} (enc : α → List Value) (k : Nat) (w : World) (ao : Option Addr) (l : List α) : Prop :=
  0 < l.length → ∃ b o, ao = some ⟨b, o, none⟩ ∧ b < w.heap.size ∧ ∀ j (h : j < l.length) i v, (enc l[j])[i]? = some v → w.cell? ⟨b, o + j * k + i, none⟩ = some v
/-- v is a slice that reads as l. -/
def Sl {α : Type} (enc : α → List Value) (k : Nat) (w : World) (v : Value) (l : List α) : Prop :=
  ∃ ao L cap, v = .slice ao L cap ∧ l.length = L ∧ L ≤ cap ∧ cap ≤ 9223372036854775807 ∧ Row enc k w ao l
theorem Row.below {α : Type} {enc : α → List Value} {k : Nat} {w w' : World} {ao : Option Addr} {l : List α} (h : Row enc k w ao l) (hb : Below w.heap.size w w') : Row enc k w' ao l := fun hl => by
  obtain ⟨b, o, e, hlt, hc⟩ := h hl
  exact ⟨b, o, e, Nat.lt_of_lt_of_le hlt hb.size, fun j hj i v hv => (hb.cell (p := ⟨b, o + j * k + i, none⟩) hlt).trans (hc j hj i v hv)⟩
theorem Sl.below {α : Type} {enc : α → List Value} {k : Nat} {w w' : World} {v : Value} {l : List α} (h : Sl enc k w v l) (hb : Below w.heap.size w w') : Sl enc k w' v l := by
  obtain ⟨ao, L, cap, e, h1, h2, h3, h4⟩ := h
  exact ⟨ao, L, cap, e, h1, h2, h3, h4.below hb⟩
theorem Sl.nil {α : Type} (enc : α → List Value) (k : Nat) (w : World) : Sl enc k w (.slice none 0 0) [] := ⟨none, 0, 0, rfl, rfl, Nat.le_refl _, by decide, fun h => by simp at h⟩
abbrev Evs := Sl ecs 9
abbrev Kys := Sl kcs 4

theorem Row.ev {w : World} {ao : Option Addr} {l : List Ev} (h : Row ecs 9 w ao l) {j : Nat} {x : Ev} (hx : l[j]? = some x) : ∃ b o, ao = some ⟨b, o, none⟩ ∧ b < w.heap.size ∧
    w.cell? ⟨b, o + j * 9, none⟩ = some (.int .i64 x.key.f) ∧ w.cell? ⟨b, o + j * 9 + 1, none⟩ = some (.int .i64 x.key.e) ∧ w.cell? ⟨b, o + j * 9 + 2, none⟩ = some (.int .i64 x.key.k) ∧ w.cell? ⟨b, o + j * 9 + 3, none⟩ = some (.int .i64 x.key.o) ∧ w.cell? ⟨b, o + j * 9 + 4, none⟩ = some (.int .i64 x.a) ∧ w.cell? ⟨b, o + j * 9 + 5, none⟩ = some (.int .i64 x.g) ∧ w.cell? ⟨b, o + j * 9 + 6, none⟩ = some (.int .i64 x.p) ∧ w.cell? ⟨b, o + j * 9 + 7, none⟩ = some (.int .i64 x.r) ∧ w.cell? ⟨b, o + j * 9 + 8, none⟩ = some (.int .i64 x.l) := by
  obtain ⟨hj, rfl⟩ := List.getElem?_eq_some_iff.1 hx
  obtain ⟨b, o, e, hlt, hc⟩ := h (by omega)
  exact ⟨b, o, e, hlt, hc j hj 0 _ rfl, hc j hj 1 _ rfl, hc j hj 2 _ rfl, hc j hj 3 _ rfl, hc j hj 4 _ rfl, hc j hj 5 _ rfl, hc j hj 6 _ rfl, hc j hj 7 _ rfl, hc j hj 8 _ rfl⟩
theorem Row.ky {w : World} {ao : Option Addr} {l : List Ky} (h : Row kcs 4 w ao l) {j : Nat} {x : Ky} (hx : l[j]? = some x) : ∃ b o, ao = some ⟨b, o, none⟩ ∧ b < w.heap.size ∧
    w.cell? ⟨b, o + j * 4, none⟩ = some (.int .i64 x.f) ∧ w.cell? ⟨b, o + j * 4 + 1, none⟩ = some (.int .i64 x.e) ∧ w.cell? ⟨b, o + j * 4 + 2, none⟩ = some (.int .i64 x.k) ∧ w.cell? ⟨b, o + j * 4 + 3, none⟩ = some (.int .i64 x.o) := by
  obtain ⟨hj, rfl⟩ := List.getElem?_eq_some_iff.1 hx
  obtain ⟨b, o, e, hlt, hc⟩ := h (by omega)
  exact ⟨b, o, e, hlt, hc j hj 0 _ rfl, hc j hj 1 _ rfl, hc j hj 2 _ rfl, hc j hj 3 _ rfl⟩

/-- the cells of rows, one behind the other. -/
def flat {α : Type} (enc : α → List Value) (l : List α) : List Value := l.flatMap enc
theorem flat_len {α : Type} {enc : α → List Value} {k : Nat} (hk : ∀ x, (enc x).length = k) : ∀ l : List α, (flat enc l).length = l.length * k
  | [] => by simp [flat]
  | x :: l => by
    have := flat_len hk l
    unfold flat at this ⊢
    rw [List.flatMap_cons, List.length_append, hk, this, List.length_cons, Nat.add_mul]
    omega
theorem flat_snoc {α : Type} (enc : α → List Value) (l : List α) (x : α) : flat enc (l ++ [x]) = flat enc l ++ enc x := by simp [flat]
theorem flat_append {α : Type} (enc : α → List Value) (l m : List α) : flat enc (l ++ m) = flat enc l ++ flat enc m := by simp [flat]
theorem flat_at {α : Type} {enc : α → List Value} {k : Nat} (hk : ∀ x, (enc x).length = k) : ∀ (l : List α) (j : Nat) (hj : j < l.length) (i : Nat), i < k → (flat enc l)[j * k + i]? = (enc l[j])[i]?
  | [], j, hj, _, _ => by simp at hj
  | x :: l, 0, _, i, hi => by
    unfold flat
    rw [List.flatMap_cons, List.getElem?_append_left (by rw [hk]; omega)]
    simp
  | x :: l, j + 1, hj, i, hi => by
    have := flat_at hk l j (by simpa using hj) i hi
    unfold flat at this ⊢
    rw [List.flatMap_cons, List.getElem?_append_right (by rw [hk, Nat.add_mul]; omega), hk, show (j + 1) * k + i - k = j * k + i by rw [Nat.add_mul]; omega, this]
    simp
theorem flat_cell {α : Type} {enc : α → List Value} (h1 : ∀ x, ∀ v ∈ enc x, v.oneCell' = true) (l : List α) : ∀ v ∈ flat enc l, v.oneCell' = true := by
  intro v hv
  obtain ⟨x, _, hx⟩ := List.mem_flatMap.1 hv
  exact h1 x v hx
theorem ecs_one (x : Ev) : ∀ v ∈ ecs x, v.oneCell' = true := by
  intro v hv
  simp [ecs] at hv
  rcases hv with rfl | rfl | rfl | rfl | rfl | rfl | rfl | rfl | rfl <;> rfl
theorem kcs_one (x : Ky) : ∀ v ∈ kcs x, v.oneCell' = true := by
  intro v hv
  simp [kcs] at hv
  rcases hv with rfl | rfl | rfl | rfl <;> rfl

/-- what the call's own list reads as. -/
theorem owns_sl {α : Type} {enc : α → List Value} {k : Nat} (hk : ∀ x, (enc x).length = k) {B : Nat} {e : TypeId} {v : Value} {l : List α} {w : World} (h : w.ownsRow B e k v l.length (flat enc l)) : Sl enc k w v l := by
  rcases h.2 with ⟨rfl, h0⟩ | ⟨g, cap, cur, rfl, _, hg, hn, hm, hcs, ht⟩
  · exact ⟨none, 0, 0, rfl, h0, Nat.le_refl _, by decide, fun h => by omega⟩
  · refine ⟨_, _, cap, rfl, rfl, hn, by unfold maxLen at hm; omega, fun _ => ⟨g, 0, rfl, (Array.getElem?_eq_some_iff.1 hg).1, fun j hj i v hv => ?_⟩⟩
    have hi : i < k := by rw [← hk l[j]]; exact (List.getElem?_eq_some_iff.1 hv).1
    rw [cell_of_row w g _ _ _ _ hg]
    have hlt : j * k + i < l.length * k := by
      have : (j + 1) * k ≤ l.length * k := Nat.mul_le_mul_right k hj
      rw [Nat.add_mul] at this
      omega
    have := flat_at hk l j hj i hi
    rw [← ht, List.getElem?_take, if_pos hlt, Array.getElem?_toList, hv] at this
    rw [Nat.zero_add]
    exact this

end Go.Proofs.Ythbncbdnpeglfaa.Ev
