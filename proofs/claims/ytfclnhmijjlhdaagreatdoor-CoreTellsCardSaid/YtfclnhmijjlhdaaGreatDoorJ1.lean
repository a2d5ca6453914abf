/- Keys and events as numbers: which may be, which key stands ahead, lists in order, one more put among them (layer 11, event). -/
/- Keys and events in memory: blocks of their cells, slices that read as lists of them, lists of the call's own (layer 11, event). -/
import Derived.Test.YtfclnhmijjlhdaaGreatDoorJ0
import Derived.Test.YtfclnhmijjlhdaaGreatDoorRows
import Derived.WalkKit
import Derived.RangeFuncBox
import Derived.Deep.Draws
import Derived.Maps.AppendAt
import Derived.Deep.RegionHeld3
import Derived.Handy
import Derived.Shelf.SlSortCmp.QuietGrown
namespace Go.Proofs.YtfclnhmijjlhdaaGreatDoor.Ev
open Go
set_option linter.unusedVariables false

/-- a key. -/
structure Ky where
 f : Int
 e : Int
 k : Int
 o : Int
deriving DecidableEq, Inhabited
/-- an event. -/
structure Ev where
 key : Ky
 a : Int
 g : Int
 p : Int
 r : Int
 l : Int
deriving DecidableEq, Inhabited

def inB (x a b : Int) : Bool := decide (a ≤ x) && decide (x ≤ b)
def keyB (k : Ky) : Bool := inB k.f 0 1073741824 && inB k.e 0 2 && inB k.k 1 9 && inB k.o 0 15
def evB (x : Ev) : Bool := keyB x.key && inB x.a 0 31 && inB x.g 0 32768 && inB x.p (-32768) 32768 && inB x.r 0 15 && inB x.l 0 600
def cmpI (a b : Int) : Int := if a < b then -1 else if b < a then 1 else 0
def orI (a b : Int) : Int := if a = 0 then b else a
def cmpK (a b : Ky) : Int := orI (cmpI a.f b.f) (orI (cmpI a.e b.e) (orI (cmpI a.k b.k) (cmpI a.o b.o)))
/-- the key stands ahead of the other one. -/
def ltK (a b : Ky) : Prop := a.f < b.f ∨ (a.f = b.f ∧ (a.e < b.e ∨ (a.e = b.e ∧ (a.k < b.k ∨ (a.k = b.k ∧ a.o < b.o)))))
instance (a b : Ky) : Decidable (ltK a b) := by unfold ltK; infer_instance

theorem cmpI_cases (a b : Int) : (a < b ∧ cmpI a b = -1) ∨ (b < a ∧ cmpI a b = 1) ∨ (a = b ∧ cmpI a b = 0) := by
 unfold cmpI
 by_cases h1 : a < b
 · exact .inl ⟨h1, by simp [h1]⟩
 · by_cases h2 : b < a
   · exact .inr (.inl ⟨h2, by simp [h1, h2]⟩)
   · exact .inr (.inr ⟨by omega, by simp [h1, h2]⟩)
theorem ext_ky {a b : Ky} (h1 : a.f = b.f) (h2 : a.e = b.e) (h3 : a.k = b.k) (h4 : a.o = b.o) : a = b := by
 cases a; cases b; simp at h1 h2 h3 h4; simp [h1, h2, h3, h4]
theorem ext_ev {a b : Ev} (h0 : a.key = b.key) (h1 : a.a = b.a) (h2 : a.g = b.g) (h3 : a.p = b.p) (h4 : a.r = b.r) (h5 : a.l = b.l) : a = b := by
 cases a; cases b; simp at h0 h1 h2 h3 h4 h5; simp [h0, h1, h2, h3, h4, h5]
theorem cmpK_cases (a b : Ky) : (ltK a b ∧ cmpK a b = -1) ∨ (ltK b a ∧ cmpK a b = 1) ∨ (a = b ∧ cmpK a b = 0) := by
 unfold ltK cmpK orI
 rcases cmpI_cases a.f b.f with ⟨h, e⟩ | ⟨h, e⟩ | ⟨h, e⟩ <;> rw [e]
 · left; simp; omega
 · right; left; simp; omega
 rcases cmpI_cases a.e b.e with ⟨h2, e2⟩ | ⟨h2, e2⟩ | ⟨h2, e2⟩ <;> rw [e2]
 · left; simp; omega
 · right; left; simp; omega
 rcases cmpI_cases a.k b.k with ⟨h3, e3⟩ | ⟨h3, e3⟩ | ⟨h3, e3⟩ <;> rw [e3]
 · left; simp; omega
 · right; left; simp; omega
 rcases cmpI_cases a.o b.o with ⟨h4, e4⟩ | ⟨h4, e4⟩ | ⟨h4, e4⟩ <;> rw [e4]
 · left; simp; omega
 · right; left; simp; omega
 · right; right; exact ⟨ext_ky h h2 h3 h4, by simp⟩
theorem ltK_irr (a : Ky) : ¬ ltK a a := by unfold ltK; omega
theorem ltK_trans {a b c : Ky} (h1 : ltK a b) (h2 : ltK b c) : ltK a c := by unfold ltK at *; omega
theorem ltK_asymm {a b : Ky} (h1 : ltK a b) : ¬ ltK b a := by unfold ltK at *; omega
theorem ltK_total {a b : Ky} (h : ¬ ltK a b) : ltK b a ∨ a = b := by
 rcases cmpK_cases a b with ⟨h1, _⟩ | ⟨h1, _⟩ | ⟨h1, _⟩
 · exact (h h1).elim
 · exact .inl h1
 · exact .inr h1
theorem cmpK_lt (a b : Ky) : cmpK a b < 0 ↔ ltK a b := by
 rcases cmpK_cases a b with ⟨h1, e⟩ | ⟨h1, e⟩ | ⟨h1, e⟩ <;> rw [e]
 · simp [h1]
 · simp [ltK_asymm h1]
 · subst h1; simp [ltK_irr]
theorem cmpK_zero (a b : Ky) : cmpK a b = 0 ↔ a = b := by
 rcases cmpK_cases a b with ⟨h1, e⟩ | ⟨h1, e⟩ | ⟨h1, e⟩ <;> rw [e]
 · simp; rintro rfl; exact ltK_irr _ h1
 · simp; rintro rfl; exact ltK_irr _ h1
 · simp [h1]
theorem cmpK_neg (a b : Ky) : cmpK b a = -cmpK a b := by
 rcases cmpK_cases a b with ⟨h1, e⟩ | ⟨h1, e⟩ | ⟨h1, e⟩ <;> rcases cmpK_cases b a with ⟨h2, e2⟩ | ⟨h2, e2⟩ | ⟨h2, e2⟩ <;> rw [e, e2]
 all_goals first
  | rfl
  | exact (ltK_asymm h1 h2).elim
  | (subst h1; exact (ltK_irr _ h2).elim)
  | (subst h2; exact (ltK_irr _ h1).elim)
theorem cmpK_bd (a b : Ky) : -1 ≤ cmpK a b ∧ cmpK a b ≤ 1 := by
 rcases cmpK_cases a b with ⟨h1, e⟩ | ⟨h1, e⟩ | ⟨h1, e⟩ <;> rw [e] <;> decide
theorem cmpK_le (a b : Ky) : cmpK a b ≤ 0 ↔ ¬ ltK b a := by
 rcases cmpK_cases a b with ⟨h1, e⟩ | ⟨h1, e⟩ | ⟨h1, e⟩ <;> rw [e]
 · simp [ltK_asymm h1]
 · simp [h1]
 · subst h1; simp [ltK_irr]
theorem cmpK_ge (a b : Ky) : 0 ≤ cmpK a b ↔ ¬ ltK a b := by
 have := cmpK_lt a b
 by_cases h : ltK a b <;> simp [h] at this ⊢ <;> omega

/-- keys that rise. -/
def up (l : List Ky) : Prop := l.Pairwise ltK
instance (l : List Ky) : Decidable (up l) := by unfold up; infer_instance
/-- the keys of some events. -/
abbrev keys (l : List Ev) : List Ky := l.map Ev.key
/-- keys that may be, and rise. -/
def risB (l : List Ky) : Bool := l.all keyB && decide (up l)
/-- a list in order. -/
def ordB (l : List Ev) : Bool := l.all evB && decide (up (keys l)) && decide (l.length ≤ 64)

theorem up_nil : up [] := List.Pairwise.nil
theorem up_snoc {l : List Ky} (h : up l) (x : Ky) (hx : ∀ y, l.getLast? = some y → ltK y x) : up (l ++ [x]) := by
 unfold up at *
 rw [List.pairwise_append]
 refine ⟨h, List.pairwise_singleton _ _, fun a ha b hb => ?_⟩
 simp at hb
 subst hb
 cases hl : l.getLast? with
 | none => rw [List.getLast?_eq_none_iff] at hl; subst hl; simp at ha
 | some y =>
  have hy := hx y hl
  obtain ⟨m, rfl⟩ := List.getLast?_eq_some_iff.1 hl
  rw [List.pairwise_append] at h
  simp at ha
  rcases ha with ha | rfl
  · exact ltK_trans (h.2.2 a ha y (by simp)) hy
  · exact hy
theorem up_last {l : List Ky} {x y : Ky} (h : up (l ++ [x])) (hl : l.getLast? = some y) : ltK y x := by
 unfold up at h
 rw [List.pairwise_append] at h
 obtain ⟨m, rfl⟩ := List.getLast?_eq_some_iff.1 hl
 exact h.2.2 y (by simp) x (by simp)
theorem up_nodup {l : List Ky} (h : up l) : l.Nodup := by
 refine List.Pairwise.imp (R := ltK) ?_ h
 intro a b hab e
 subst e
 exact ltK_irr _ hab

/-- an event among some in order, ahead of those that aren't ahead of it. -/
def putL (x : Ev) : List Ev → List Ev
 | [] => [x]
 | y :: l => if cmpK x.key y.key ≤ 0 then x :: y :: l else y :: putL x l
def sortL (l : List Ev) : List Ev := l.foldl (fun o x => putL x o) []
/-- no key stands ahead of an earlier one. -/
def wk (l : List Ev) : Prop := l.Pairwise fun a b => ¬ ltK b.key a.key

theorem leK_trans {a b c : Ky} (h1 : ¬ ltK b a) (h2 : ¬ ltK c b) : ¬ ltK c a := by
 intro h
 rcases ltK_total h2 with h3 | h3
 · exact h1 (ltK_trans h3 h)
 · subst h3; exact h1 h
theorem put_perm (x : Ev) : ∀ l, (putL x l).Perm (x :: l)
 | [] => List.Perm.refl _
 | y :: l => by
  unfold putL
  split
  · exact List.Perm.refl _
  · exact ((put_perm x l).cons y).trans (List.Perm.swap x y l)
theorem put_wk (x : Ev) : ∀ {l}, wk l → wk (putL x l)
 | [], _ => List.pairwise_singleton _ _
 | y :: l, h => by
  have h' := h
  unfold wk at h
  rw [List.pairwise_cons] at h
  unfold putL
  split
  · rename_i hc
    rw [cmpK_le] at hc
    unfold wk
    rw [List.pairwise_cons]
    refine ⟨fun z hz => ?_, h'⟩
    simp at hz
    rcases hz with rfl | hz
    · exact hc
    · exact leK_trans hc (h.1 z hz)
  · rename_i hc
    rw [cmpK_le] at hc
    unfold wk
    rw [List.pairwise_cons]
    refine ⟨fun z hz => ?_, put_wk x h.2⟩
    have := (put_perm x l).mem_iff.1 hz
    simp at this
    rcases this with rfl | hz
    · exact fun hh => hc (fun hh2 => ltK_asymm hh hh2)
    · exact h.1 z hz
theorem foldl_put_perm : ∀ (l o : List Ev), (l.foldl (fun o x => putL x o) o).Perm (l ++ o)
 | [], o => List.Perm.refl _
 | x :: l, o => by
  simp only [List.foldl_cons]
  refine (foldl_put_perm l _).trans ?_
  refine ((put_perm x o).append_left l).trans ?_
  exact List.perm_middle
theorem foldl_put_wk : ∀ (l o : List Ev), wk o → wk (l.foldl (fun o x => putL x o) o)
 | [], o, h => h
 | x :: l, o, h => foldl_put_wk l _ (put_wk x h)
theorem sort_perm (l : List Ev) : (sortL l).Perm l := by simpa [sortL] using foldl_put_perm l []
theorem sort_wk (l : List Ev) : wk (sortL l) := foldl_put_wk l [] List.Pairwise.nil
theorem put_len (x : Ev) (l : List Ev) : (putL x l).length = l.length + 1 := by simpa using (put_perm x l).length_eq

theorem up_wk {l : List Ev} (h : up (keys l)) : wk l := by
 unfold up keys at h
 rw [List.pairwise_map] at h
 exact h.imp fun hab => ltK_asymm hab
theorem wk_up : ∀ {l : List Ev}, wk l → (keys l).Nodup → up (keys l)
 | [], _, _ => List.Pairwise.nil
 | x :: l, h, hn => by
  unfold wk at h
  rw [List.pairwise_cons] at h
  simp only [keys, List.map_cons, List.nodup_cons] at hn
  unfold up
  simp only [keys, List.map_cons, List.pairwise_cons]
  refine ⟨fun k hk => ?_, wk_up h.2 hn.2⟩
  simp at hk
  obtain ⟨y, hy, rfl⟩ := hk
  rcases ltK_total (h.1 y hy) with h2 | h2
  · exact h2
  · exact (hn.1 (by rw [← h2]; exact List.mem_map_of_mem hy)).elim
/-- two lists of the same events in order are one. -/
theorem up_eq : ∀ {a b : List Ev}, a.Perm b → up (keys a) → up (keys b) → a = b
 | [], b, h, _, _ => (List.perm_nil.1 h.symm).symm
 | x :: a, [], h, _, _ => (List.perm_nil.1 h)
 | x :: a, y :: b, h, ha, hb => by
  have ha' := ha
  have hb' := hb
  unfold up at ha hb
  simp only [keys, List.map_cons, List.pairwise_cons] at ha hb
  have hxy : x = y := by
   have h1 := h.mem_iff (a := x)
   have h2 := h.mem_iff (a := y)
   simp at h1 h2
   rcases h1 with h1 | h1
   · exact h1
   rcases h2 with h2 | h2
   · exact h2.symm
   exact (ltK_asymm (ha.1 y.key (List.mem_map_of_mem h2)) (hb.1 x.key (List.mem_map_of_mem h1))).elim
  subst hxy
  rw [up_eq (List.Perm.cons_inv h) ha.2 hb.2]
theorem wk_eq {a b : List Ev} (h : a.Perm b) (ha : wk a) (hb : up (keys b)) : a = b :=
 up_eq h (wk_up ha ((h.map Ev.key).nodup_iff.2 (up_nodup hb))) hb
/-- of two lists of the same events whose keys don't fall both rise, or none. -/
theorem wk_iff {a b : List Ev} (h : a.Perm b) (ha : wk a) (hb : wk b) : up (keys a) ↔ up (keys b) :=
 ⟨fun hu => wk_up hb ((h.map Ev.key).nodup_iff.1 (up_nodup hu)), fun hu => wk_up ha ((h.map Ev.key).nodup_iff.2 (up_nodup hu))⟩
theorem all_perm {a b : List Ev} (h : a.Perm b) (q : Ev → Bool) : a.all q = b.all q := by
 rw [Bool.eq_iff_iff, List.all_eq_true, List.all_eq_true]
 exact ⟨fun ha x hx => ha x (h.mem_iff.2 hx), fun hb x hx => hb x (h.mem_iff.1 hx)⟩

/-- the event of a key. -/
def getK (l : List Ev) (k : Ky) : Option Ev := l.find? fun x => decide (x.key = k)
theorem getK_some {l : List Ev} {k : Ky} {x : Ev} (h : getK l k = some x) : x ∈ l ∧ x.key = k := by
 unfold getK at h
 exact ⟨List.mem_of_find?_eq_some h, by simpa using List.find?_some h⟩
theorem getK_none {l : List Ev} {k : Ky} : getK l k = none ↔ k ∉ keys l := by
 unfold getK
 rw [List.find?_eq_none]
 simp
theorem nodup_key : ∀ {l : List Ev}, (keys l).Nodup → ∀ {x y : Ev}, x ∈ l → y ∈ l → x.key = y.key → x = y
 | [], _, _, _, h, _, _ => by simp at h
 | z :: l, hn, x, y, hx, hy, e => by
  simp only [keys, List.map_cons, List.nodup_cons] at hn
  simp at hx hy
  rcases hx with rfl | hx <;> rcases hy with rfl | hy
  · rfl
  · exact (hn.1 (by rw [e]; exact List.mem_map_of_mem hy)).elim
  · exact (hn.1 (by rw [← e]; exact List.mem_map_of_mem hx)).elim
  · exact nodup_key hn.2 hx hy e
theorem getK_mem {l : List Ev} (hn : (keys l).Nodup) {x : Ev} (hx : x ∈ l) : getK l x.key = some x := by
 cases h : getK l x.key with
 | none => exact (getK_none.1 h (List.mem_map_of_mem hx)).elim
 | some y => rw [nodup_key hn (getK_some h).1 hx (getK_some h).2]

end Go.Proofs.YtfclnhmijjlhdaaGreatDoor.Ev

namespace Go.Proofs.YtfclnhmijjlhdaaGreatDoor.Ev
open Go.RowKit
set_option linter.unusedVariables false

theorem hid {p : Prop} (h : p) : Hid p := h
abbrev kcs (k : Ky) : List Value := [.int .i64 k.f, .int .i64 k.e, .int .i64 k.k, .int .i64 k.o]
abbrev ecs (x : Ev) : List Value := [.int .i64 x.key.f, .int .i64 x.key.e, .int .i64 x.key.k, .int .i64 x.key.o, .int .i64 x.a, .int .i64 x.g, .int .i64 x.p, .int .i64 x.r, .int .i64 x.l]
abbrev kv (k : Ky) : Value := .agg #[.int .i64 k.f, .int .i64 k.e, .int .i64 k.k, .int .i64 k.o]
abbrev ev (x : Ev) : Value := .agg #[.int .i64 x.key.f, .int .i64 x.key.e, .int .i64 x.key.k, .int .i64 x.key.o, .int .i64 x.a, .int .i64 x.g, .int .i64 x.p, .int .i64 x.r, .int .i64 x.l]

theorem bal {w W : World} (h : Below w.heap.size w W) (o : Obj) : Below w.heap.size w (W.alloc o) := h.alloc h.size o
theorem bd1 {w W : World} (h : Below w.heap.size w W) : Below w.heap.size w W.drew := ⟨h.os, h.tape, h.output, h.size, h.block⟩
theorem bdn {w W : World} (h : Below w.heap.size w W) (q : Nat) : Below w.heap.size w (W.drewN q) := ⟨h.os, h.tape, h.output, h.size, h.block⟩
theorem bt {a b c : World} (h : Below a.heap.size a b) (k : Below b.heap.size b c) : Below a.heap.size a c := h.trans (k.mono h.size)
theorem br (w : World) : Below w.heap.size w w := Below.refl _ w

/-- the world w with draws and new blocks. -/
def Gr (w w' : World) : Prop := ∃ q os, w' = Go.Sort.grow (w.drewN q) os
theorem Gr.below {w w' : World} (h : Gr w w') : Below w.heap.size w w' := by
 obtain ⟨q, os, rfl⟩ := h
 exact ⟨rfl, rfl, rfl, by simp, fun k hk => Go.Sort.heap_grow_old _ _ hk⟩
theorem Gr.refl (w : World) : Gr w w := ⟨0, #[], by rw [Go.Sort.grow_empty]; rfl⟩
theorem Gr.alloc {w W : World} (h : Gr w W) (o : Obj) : Gr w (W.alloc o) := by
 obtain ⟨q, os, rfl⟩ := h
 exact ⟨q, os ++ #[o], by rw [Go.Sort.alloc_eq_grow, Go.Sort.grow_grow]⟩
theorem Gr.drewN {w W : World} (h : Gr w W) (n : Nat) : Gr w (W.drewN n) := by
 obtain ⟨q, os, rfl⟩ := h
 exact ⟨q + n, os, by simp [World.drewN, Go.Sort.grow, Nat.add_assoc]⟩
theorem Gr.drew {w W : World} (h : Gr w W) : Gr w W.drew := by
 obtain ⟨q, os, rfl⟩ := h
 exact ⟨q + 1, os, by simp [World.drewN, World.drew, Go.Sort.grow, Nat.add_assoc]⟩
theorem Gr.trans {a b c : World} (h : Gr a b) (k : Gr b c) : Gr a c := by
 obtain ⟨q, os, rfl⟩ := h
 obtain ⟨q', os', rfl⟩ := k
 refine ⟨q + q', os ++ os', ?_⟩
 simp [World.drewN, Go.Sort.grow, Nat.add_assoc, Array.append_assoc]

theorem gal {w W : World} (h : Gr w W) (o : Obj) : Gr w (W.alloc o) := h.alloc o
theorem gd1 {w W : World} (h : Gr w W) : Gr w W.drew := h.drew
theorem gdn {w W : World} (h : Gr w W) (q : Nat) : Gr w (W.drewN q) := h.drewN q
theorem gt {a b c : World} (h : Gr a b) (k : Gr b c) : Gr a c := h.trans k
theorem gr (w : World) : Gr w w := Gr.refl w
/-- a cell, in every world that grew out of this one. -/
theorem grown {w : World} {b o : Nat} {v : Value} (hb : b < w.heap.size) (h : w.cell? ⟨b, o, none⟩ = some v) : ∀ (n : Nat) (os : Array Obj), (Go.Sort.grow (w.drewN n) os).cell? ⟨b, o, none⟩ = some v :=
 fun n os => Go.cell_grown hb h n os

/-- block b holds just these cells. -/
def At (w : World) (b : Nat) (cs : Array Value) (T : TypeId) : Prop := w.heap[b]? = some (.cells cs T (0, 0))
theorem At.new (w : World) (cs : Array Value) (T : TypeId) : At (w.alloc (.cells cs T)) w.heap.size cs T := heap_alloc_new w _
theorem At.newAt (w : World) (cs : Array Value) (T : TypeId) {n : Nat} (h : w.heap.size = n) : At (w.alloc (.cells cs T)) n cs T := by subst h; exact At.new w cs T
theorem At.lt {w : World} {b : Nat} {cs : Array Value} {T : TypeId} (h : At w b cs T) : b < w.heap.size := (Array.getElem?_eq_some_iff.1 h).1
theorem At.belowB {w w' : World} {B b : Nat} {cs : Array Value} {T : TypeId} (h : At w b cs T) (hb : Below B w w') (hlt : b < B) : At w' b cs T := by
 unfold At at h ⊢
 rw [hb.block b hlt]
 exact h
theorem At.below {w w' : World} {b : Nat} {cs : Array Value} {T : TypeId} (h : At w b cs T) (hb : Below w.heap.size w w') : At w' b cs T := h.belowB hb h.lt
theorem At.more {w : World} {b : Nat} {cs : Array Value} {T : TypeId} (h : At w b cs T) (o : Obj) : At (w.alloc o) b cs T := h.below (bal (br w) o)
theorem At.drew {w : World} {b : Nat} {cs : Array Value} {T : TypeId} (h : At w b cs T) : At w.drew b cs T := h.below (bd1 (br w))
theorem At.frozen {w : World} {b : Nat} {cs : Array Value} {T : TypeId} (h : At w b cs T) (j : Nat) : w.frozen? ⟨b, j, none⟩ = false := frozen_of_row w b j _ _ h
theorem At.one {w : World} {b : Nat} {v0 : Value} {T : TypeId} (h : At w b #[v0] T) : w.cell? ⟨b, 0, none⟩ = some v0 := by
 rw [cell_of_row w b 0 _ _ _ h]; rfl
theorem At.two {w : World} {b : Nat} {v0 v1 : Value} {T : TypeId} (h : At w b #[v0, v1] T) : w.cell? ⟨b, 0, none⟩ = some v0 ∧ w.cell? ⟨b, 1, none⟩ = some v1 := by
 have hc := fun j => cell_of_row w b j _ _ _ h
 refine ⟨?_, ?_⟩ <;> (rw [hc]; rfl)
theorem At.three {w : World} {b : Nat} {v0 v1 v2 : Value} {T : TypeId} (h : At w b #[v0, v1, v2] T) : w.cell? ⟨b, 0, none⟩ = some v0 ∧ w.cell? ⟨b, 1, none⟩ = some v1 ∧ w.cell? ⟨b, 2, none⟩ = some v2 := by
 have hc := fun j => cell_of_row w b j _ _ _ h
 refine ⟨?_, ?_, ?_⟩ <;> (rw [hc]; rfl)
theorem At.four {w : World} {b : Nat} {v0 v1 v2 v3 : Value} {T : TypeId} (h : At w b #[v0, v1, v2, v3] T) : w.cell? ⟨b, 0, none⟩ = some v0 ∧ w.cell? ⟨b, 1, none⟩ = some v1 ∧ w.cell? ⟨b, 2, none⟩ = some v2 ∧ w.cell? ⟨b, 3, none⟩ = some v3 := by
 have hc := fun j => cell_of_row w b j _ _ _ h
 refine ⟨?_, ?_, ?_, ?_⟩ <;> (rw [hc]; rfl)
theorem At.nine {w : World} {b : Nat} {v0 v1 v2 v3 v4 v5 v6 v7 v8 : Value} {T : TypeId} (h : At w b #[v0, v1, v2, v3, v4, v5, v6, v7, v8] T) : w.cell? ⟨b, 0, none⟩ = some v0 ∧ w.cell? ⟨b, 1, none⟩ = some v1 ∧ w.cell? ⟨b, 2, none⟩ = some v2 ∧ w.cell? ⟨b, 3, none⟩ = some v3 ∧ w.cell? ⟨b, 4, none⟩ = some v4 ∧ w.cell? ⟨b, 5, none⟩ = some v5 ∧ w.cell? ⟨b, 6, none⟩ = some v6 ∧ w.cell? ⟨b, 7, none⟩ = some v7 ∧ w.cell? ⟨b, 8, none⟩ = some v8 := by
 have hc := fun j => cell_of_row w b j _ _ _ h
 refine ⟨?_, ?_, ?_, ?_, ?_, ?_, ?_, ?_, ?_⟩ <;> (rw [hc]; rfl)
/-- of a boxed event, behind a call, the cells behind its key. -/
theorem tail_box {w w1 : World} {x : Ev} {T : TypeId} (hb : Gr (w.alloc (.cells #[.int .i64 x.key.f, .int .i64 x.key.e, .int .i64 x.key.k, .int .i64 x.key.o, .int .i64 x.a, .int .i64 x.g, .int .i64 x.p, .int .i64 x.r, .int .i64 x.l] T)) w1) :
 w1.cell? ⟨w.heap.size, 4, none⟩ = some (.int .i64 x.a) ∧ w1.cell? ⟨w.heap.size, 5, none⟩ = some (.int .i64 x.g) ∧ w1.cell? ⟨w.heap.size, 6, none⟩ = some (.int .i64 x.p) ∧ w1.cell? ⟨w.heap.size, 7, none⟩ = some (.int .i64 x.r) ∧ w1.cell? ⟨w.heap.size, 8, none⟩ = some (.int .i64 x.l) := by
 have h := ((At.new w _ T).below hb.below).nine
 exact h.2.2.2.2

/-- at ao the rows l lie, k cells each. -/
def Row {α : Type} (enc : α → List Value) (k : Nat) (w : World) (ao : Option Addr) (l : List α) : Prop :=
 0 < l.length → ∃ b o, ao = some ⟨b, o, none⟩ ∧ b < w.heap.size ∧ ∀ j (h : j < l.length) i v, (enc l[j])[i]? = some v → w.cell? ⟨b, o + j * k + i, none⟩ = some v
/-- v is a slice that reads as l. -/
def Sl {α : Type} (enc : α → List Value) (k : Nat) (w : World) (v : Value) (l : List α) : Prop :=
 ∃ ao L cap, v = .slice ao L cap ∧ l.length = L ∧ L ≤ cap ∧ cap ≤ 9223372036854775807 ∧ Row enc k w ao l
theorem Row.below {α : Type} {enc : α → List Value} {k : Nat} {w w' : World} {ao : Option Addr} {l : List α} (h : Row enc k w ao l) (hb : Below w.heap.size w w') : Row enc k w' ao l := fun hl => by
 obtain ⟨b, o, e, hlt, hc⟩ := h hl
 exact ⟨b, o, e, Nat.lt_of_lt_of_le hlt hb.size, fun j hj i v hv => (hb.cell (p := ⟨b, o + j * k + i, none⟩) hlt).trans (hc j hj i v hv)⟩
theorem Sl.below {α : Type} {enc : α → List Value} {k : Nat} {w w' : World} {v : Value} {l : List α} (h : Sl enc k w v l) (hb : Below w.heap.size w w') : Sl enc k w' v l := by
 obtain ⟨ao, L, cap, e, h1, h2, h3, h4⟩ := h
 exact ⟨ao, L, cap, e, h1, h2, h3, h4.below hb⟩
theorem Sl.nil {α : Type} (enc : α → List Value) (k : Nat) (w : World) : Sl enc k w (.slice none 0 0) [] := ⟨none, 0, 0, rfl, rfl, Nat.le_refl _, by decide, fun h => by simp at h⟩
abbrev Evs := Sl ecs 9
abbrev Kys := Sl kcs 4

theorem Row.ev {w : World} {ao : Option Addr} {l : List Ev} (h : Row ecs 9 w ao l) {j : Nat} {x : Ev} (hx : l[j]? = some x) : ∃ b o, ao = some ⟨b, o, none⟩ ∧ b < w.heap.size ∧
 w.cell? ⟨b, o + j * 9, none⟩ = some (.int .i64 x.key.f) ∧ w.cell? ⟨b, o + j * 9 + 1, none⟩ = some (.int .i64 x.key.e) ∧ w.cell? ⟨b, o + j * 9 + 2, none⟩ = some (.int .i64 x.key.k) ∧ w.cell? ⟨b, o + j * 9 + 3, none⟩ = some (.int .i64 x.key.o) ∧ w.cell? ⟨b, o + j * 9 + 4, none⟩ = some (.int .i64 x.a) ∧ w.cell? ⟨b, o + j * 9 + 5, none⟩ = some (.int .i64 x.g) ∧ w.cell? ⟨b, o + j * 9 + 6, none⟩ = some (.int .i64 x.p) ∧ w.cell? ⟨b, o + j * 9 + 7, none⟩ = some (.int .i64 x.r) ∧ w.cell? ⟨b, o + j * 9 + 8, none⟩ = some (.int .i64 x.l) := by
 obtain ⟨hj, rfl⟩ := List.getElem?_eq_some_iff.1 hx
 obtain ⟨b, o, e, hlt, hc⟩ := h (by omega)
 exact ⟨b, o, e, hlt, hc j hj 0 _ rfl, hc j hj 1 _ rfl, hc j hj 2 _ rfl, hc j hj 3 _ rfl, hc j hj 4 _ rfl, hc j hj 5 _ rfl, hc j hj 6 _ rfl, hc j hj 7 _ rfl, hc j hj 8 _ rfl⟩
theorem Row.ky {w : World} {ao : Option Addr} {l : List Ky} (h : Row kcs 4 w ao l) {j : Nat} {x : Ky} (hx : l[j]? = some x) : ∃ b o, ao = some ⟨b, o, none⟩ ∧ b < w.heap.size ∧
 w.cell? ⟨b, o + j * 4, none⟩ = some (.int .i64 x.f) ∧ w.cell? ⟨b, o + j * 4 + 1, none⟩ = some (.int .i64 x.e) ∧ w.cell? ⟨b, o + j * 4 + 2, none⟩ = some (.int .i64 x.k) ∧ w.cell? ⟨b, o + j * 4 + 3, none⟩ = some (.int .i64 x.o) := by
 obtain ⟨hj, rfl⟩ := List.getElem?_eq_some_iff.1 hx
 obtain ⟨b, o, e, hlt, hc⟩ := h (by omega)
 exact ⟨b, o, e, hlt, hc j hj 0 _ rfl, hc j hj 1 _ rfl, hc j hj 2 _ rfl, hc j hj 3 _ rfl⟩

/-- the cells of rows, one behind the other. -/
def flat {α : Type} (enc : α → List Value) (l : List α) : List Value := l.flatMap enc
theorem flat_len {α : Type} {enc : α → List Value} {k : Nat} (hk : ∀ x, (enc x).length = k) : ∀ l : List α, (flat enc l).length = l.length * k
 | [] => by simp [flat]
 | x :: l => by
  have := flat_len hk l
  unfold flat at this ⊢
  rw [List.flatMap_cons, List.length_append, hk, this, List.length_cons, Nat.add_mul]
  omega
theorem flat_snoc {α : Type} (enc : α → List Value) (l : List α) (x : α) : flat enc (l ++ [x]) = flat enc l ++ enc x := by simp [flat]
theorem flat_append {α : Type} (enc : α → List Value) (l m : List α) : flat enc (l ++ m) = flat enc l ++ flat enc m := by simp [flat]
theorem flat_at {α : Type} {enc : α → List Value} {k : Nat} (hk : ∀ x, (enc x).length = k) : ∀ (l : List α) (j : Nat) (hj : j < l.length) (i : Nat), i < k → (flat enc l)[j * k + i]? = (enc l[j])[i]?
 | [], j, hj, _, _ => by simp at hj
 | x :: l, 0, _, i, hi => by
  unfold flat
  rw [List.flatMap_cons, List.getElem?_append_left (by rw [hk]; omega)]
  simp
 | x :: l, j + 1, hj, i, hi => by
  have := flat_at hk l j (by simpa using hj) i hi
  unfold flat at this ⊢
  rw [List.flatMap_cons, List.getElem?_append_right (by rw [hk, Nat.add_mul]; omega), hk, show (j + 1) * k + i - k = j * k + i by rw [Nat.add_mul]; omega, this]
  simp
theorem flat_cell {α : Type} {enc : α → List Value} (h1 : ∀ x, ∀ v ∈ enc x, v.oneCell' = true) (l : List α) : ∀ v ∈ flat enc l, v.oneCell' = true := by
 intro v hv
 obtain ⟨x, _, hx⟩ := List.mem_flatMap.1 hv
 exact h1 x v hx
theorem ecs_one (x : Ev) : ∀ v ∈ ecs x, v.oneCell' = true := by
 intro v hv
 simp [ecs] at hv
 rcases hv with rfl | rfl | rfl | rfl | rfl | rfl | rfl | rfl | rfl <;> rfl
theorem kcs_one (x : Ky) : ∀ v ∈ kcs x, v.oneCell' = true := by
 intro v hv
 simp [kcs] at hv
 rcases hv with rfl | rfl | rfl | rfl <;> rfl

/-- what the call's own list reads as. -/
theorem owns_sl {α : Type} {enc : α → List Value} {k : Nat} (hk : ∀ x, (enc x).length = k) {B : Nat} {e : TypeId} {v : Value} {l : List α} {w : World} (h : w.ownsRow B e k v l.length (flat enc l)) : Sl enc k w v l := by
 rcases h.2 with ⟨rfl, h0⟩ | ⟨g, cap, cur, rfl, _, hg, hn, hm, hcs, ht⟩
 · exact ⟨none, 0, 0, rfl, h0, Nat.le_refl _, by decide, fun h => by omega⟩
 · refine ⟨_, _, cap, rfl, rfl, hn, by unfold maxLen at hm; omega, fun _ => ⟨g, 0, rfl, (Array.getElem?_eq_some_iff.1 hg).1, fun j hj i v hv => ?_⟩⟩
   have hi : i < k := by rw [← hk l[j]]; exact (List.getElem?_eq_some_iff.1 hv).1
   rw [cell_of_row w g _ _ _ _ hg]
   have hlt : j * k + i < l.length * k := by
    have : (j + 1) * k ≤ l.length * k := Nat.mul_le_mul_right k hj
    rw [Nat.add_mul] at this
    omega
   have := flat_at hk l j hj i hi
   rw [← ht, List.getElem?_take, if_pos hlt, Array.getElem?_toList, hv] at this
   rw [Nat.zero_add]
   exact this

end Go.Proofs.YtfclnhmijjlhdaaGreatDoor.Ev
