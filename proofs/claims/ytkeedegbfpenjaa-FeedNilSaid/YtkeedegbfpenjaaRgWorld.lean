/- What stays of a memory when some blocks are written: blocks of structs whose last field is a list of the call's own; plain facts on worlds, of no program. -/
import Derived.WalkKit
import Derived.RangeFuncBox
import Derived.Deep.Draws
import Derived.Maps.AppendAt
namespace Go.Proofs.Ytkeedegbfpenjaa.Rg
open Go.RowKit

theorem hid {p : Prop} (h : p) : Hid p := h

/-- w' is w with new blocks, and with writes to the blocks of S alone. -/
structure Keeps (S : Nat → Prop) (w w' : World) : Prop where
  os : w'.os = w.os
  tape : w'.tape = w.tape
  output : w'.output = w.output
  size : w.heap.size ≤ w'.heap.size
  block : ∀ k, k < w.heap.size → ¬ S k → w'.heap[k]? = w.heap[k]?

theorem Keeps.refl (S : Nat → Prop) (w : World) : Keeps S w w := ⟨rfl, rfl, rfl, Nat.le_refl _, fun _ _ _ => rfl⟩
theorem Keeps.drewN (S : Nat → Prop) (w : World) (q : Nat) : Keeps S w (w.drewN q) := ⟨rfl, rfl, rfl, Nat.le_refl _, fun _ _ _ => rfl⟩
theorem Keeps.trans {S S' : Nat → Prop} {a b c : World} (h : Keeps S a b) (k : Keeps S' b c) (hs : ∀ i, i < a.heap.size → S' i → S i) : Keeps S a c :=
  ⟨k.os.trans h.os, k.tape.trans h.tape, k.output.trans h.output, Nat.le_trans h.size k.size,
    fun i hi hn => (k.block i (Nat.lt_of_lt_of_le hi h.size) (fun e => hn (hs i hi e))).trans (h.block i hi hn)⟩
theorem Keeps.mono {S S' : Nat → Prop} {a b : World} (h : Keeps S a b) (hs : ∀ i, i < a.heap.size → S i → S' i) : Keeps S' a b :=
  ⟨h.os, h.tape, h.output, h.size, fun i hi hn => h.block i hi (fun e => hn (hs i hi e))⟩
theorem Keeps.alloc {S : Nat → Prop} {a w : World} (h : Keeps S a w) (o : Obj) : Keeps S a (w.alloc o) :=
  h.trans (S' := fun _ => False) ⟨rfl, rfl, rfl, by simp, fun k hk _ => Below.heap_alloc _ _ _ hk⟩ (fun _ _ e => e.elim)
theorem Keeps.setCell {S : Nat → Prop} {a w : World} (h : Keeps S a w) {p : Addr} (hp : p.block < a.heap.size → S p.block) (u : Value) : Keeps S a (w.setCell p u) :=
  h.trans (S' := fun k => k = p.block) ⟨rfl, rfl, rfl, by simp [World.setCell], fun k _ hn => Below.heap_setCell _ _ _ _ hn⟩ (fun i hi e => by subst e; exact hp hi)
theorem Keeps.drew {S : Nat → Prop} {a w : World} (h : Keeps S a w) (q : Nat) : Keeps S a (w.drewN q) :=
  ⟨h.os, h.tape, h.output, h.size, h.block⟩
theorem Keeps.drew1 {S : Nat → Prop} {a w : World} (h : Keeps S a w) : Keeps S a w.drew :=
  ⟨h.os, h.tape, h.output, h.size, h.block⟩
theorem Keeps.grown {S : Nat → Prop} {a w w' : World} {row : Option Nat} (h : Keeps S a w) (hg : w.grownBy w' row) (hr : ∀ k, row = some k → k < a.heap.size → S k) : Keeps S a w' :=
  h.trans (S' := fun k => row = some k) ⟨hg.os, hg.tape, hg.output, hg.size, fun k hk hn => hg.block k hk (fun e => hn e.symm)⟩ (fun i hi e => hr i e hi)
theorem Keeps.below {S : Nat → Prop} {n : Nat} {a b : World} (h : Keeps S a b) (hn : n ≤ a.heap.size) (hs : ∀ k, S k → n ≤ k) : Below n a b :=
  ⟨h.os, h.tape, h.output, h.size, fun k hk => h.block k (by omega) (fun e => by have := hs k e; omega)⟩
theorem Keeps.ofBelow {n : Nat} {a b : World} (h : Below n a b) : Keeps (fun k => n ≤ k) a b :=
  ⟨h.os, h.tape, h.output, h.size, fun k _ hn => h.block k (by omega)⟩
theorem Keeps.ofOld {a b : World} (h : Below a.heap.size a b) (S : Nat → Prop) : Keeps S a b :=
  ⟨h.os, h.tape, h.output, h.size, fun k hk _ => h.block k hk⟩
theorem Keeps.row {S : Nat → Prop} {a b : World} (h : Keeps S a b) {n e sz : Nat} {v : Value} {m : Nat} {xs : List Value} (hr : a.ownsRow n e sz v m xs) (hv : ∀ k, v.ownBlock = some k → ¬ S k) : b.ownsRow n e sz v m xs := by
  refine ⟨hr.1, ?_⟩
  rcases hr.2 with hn | ⟨g, cap, cur, rfl, hb, hgg, rest⟩
  · exact .inl hn
  · refine .inr ⟨g, cap, cur, rfl, hb, ?_, rest⟩
    rw [h.block g (Array.getElem?_eq_some_iff.1 hgg).1 (hv g rfl)]
    exact hgg

/-- a list's value: its address, its length, its capacity. -/
abbrev sl (ao : Option Addr) (n cap : Nat) : Value := .slice ao n cap

/-- Block b is a struct whose cells are cs and then a list (of n elements of type e, sz cells each) that owns the cells xs; both lie from n₀ on. -/
structure Held (w : World) (n₀ t e sz b : Nat) (cs : List Value) (ao : Option Addr) (n cap : Nat) (xs : List Value) : Prop where
  block : w.heap[b]? = some (.cells (cs ++ [Value.slice ao n cap]).toArray t (0, 0))
  ge : n₀ ≤ b
  row : w.ownsRow n₀ e sz (.slice ao n cap) n xs

/-- the blocks that such a struct's calls may write. -/
def Foot (b : Nat) (ao : Option Addr) (k : Nat) : Prop := k = b ∨ ∃ a, ao = some a ∧ k = a.block
/-- the list lies where it lay, or in a new block. -/
def Near (ao ao' : Option Addr) (N : Nat) : Prop := ∀ a', ao' = some a' → (∃ a, ao = some a ∧ a.block = a'.block) ∨ N ≤ a'.block

theorem Near.refl (ao : Option Addr) (N : Nat) : Near ao ao N := fun a' h => .inl ⟨a', h, rfl⟩
theorem Near.trans {x y z : Option Addr} {N M : Nat} (h : Near x y N) (k : Near y z M) (hm : N ≤ M) : Near x z N := by
  intro a ha
  rcases k a ha with ⟨b, hb, e⟩ | h1
  · rcases h b hb with ⟨c, hc, e'⟩ | h2
    · exact .inl ⟨c, hc, e'.trans e⟩
    · exact .inr (by omega)
  · exact .inr (by omega)

section
variable {w w' : World} {n₀ t e sz b : Nat} {cs : List Value} {ao : Option Addr} {n cap : Nat} {xs : List Value}

theorem Held.lt (h : Held w n₀ t e sz b cs ao n cap xs) : b < w.heap.size := (Array.getElem?_eq_some_iff.1 h.block).1
theorem Held.cell (h : Held w n₀ t e sz b cs ao n cap xs) (j : Nat) : w.cell? ⟨b, j, none⟩ = (cs ++ [Value.slice ao n cap])[j]? := by
  rw [cell_of_row w b j _ _ _ h.block]; simp
theorem Held.frozen (h : Held w n₀ t e sz b cs ao n cap xs) (j : Nat) : w.frozen? ⟨b, j, none⟩ = false := frozen_of_row w b j _ _ h.block
theorem Held.form (h : Held w n₀ t e sz b cs ao n cap xs) : (ao = none ∧ n = 0 ∧ cap = 0) ∨ ∃ g cur, ao = some ⟨g, 0, none⟩ ∧ n₀ ≤ g ∧ w.heap[g]? = some (.cells cur e (0, 0)) ∧ n ≤ cap ∧ cap ≤ maxLen ∧ cur.size = cap * sz ∧ cur.toList.take (n * sz) = xs := by
  rcases h.row.2 with ⟨h1, h2⟩ | ⟨g, cap', cur, h1, r⟩
  · cases h1; exact .inl ⟨rfl, rfl, rfl⟩
  · cases h1; exact .inr ⟨g, cur, rfl, r⟩
theorem Held.capLe (h : Held w n₀ t e sz b cs ao n cap xs) : n ≤ cap ∧ cap ≤ maxLen := by
  rcases h.form with ⟨_, rfl, rfl⟩ | ⟨_, _, _, _, _, h1, h2, _⟩
  · exact ⟨Nat.le_refl _, by unfold maxLen; omega⟩
  · exact ⟨h1, h2⟩
theorem Held.apart (h : Held w n₀ t e sz b cs ao n cap xs) (hte : t ≠ e) : ∀ a, ao = some a → a.block ≠ b := by
  intro a ha hb
  rcases h.form with ⟨h1, _⟩ | ⟨g, cur, rfl, _, hg, _⟩
  · rw [h1] at ha; cases ha
  · cases ha
    simp only at hb
    subst hb
    have := h.block.symm.trans hg
    simp at this
    exact hte this.2
theorem Held.footGe (h : Held w n₀ t e sz b cs ao n cap xs) : ∀ k, Foot b ao k → n₀ ≤ k := by
  rintro k (rfl | ⟨a, ha, rfl⟩)
  · exact h.ge
  · rcases h.form with ⟨h1, _⟩ | ⟨g, cur, rfl, hg, _⟩
    · rw [h1] at ha; cases ha
    · cases ha; exact hg
theorem Held.footLt (h : Held w n₀ t e sz b cs ao n cap xs) : ∀ k, Foot b ao k → k < w.heap.size := by
  rintro k (rfl | ⟨a, ha, rfl⟩)
  · exact h.lt
  · rcases h.form with ⟨h1, _⟩ | ⟨g, cur, rfl, hg, hh, _⟩
    · rw [h1] at ha; cases ha
    · cases ha; exact (Array.getElem?_eq_some_iff.1 hh).1
theorem Held.keeps {S : Nat → Prop} (h : Held w n₀ t e sz b cs ao n cap xs) (k : Keeps S w w') (hs : ∀ i, Foot b ao i → ¬ S i) : Held w' n₀ t e sz b cs ao n cap xs := by
  refine ⟨(k.block b h.lt (hs b (.inl rfl))).trans h.block, h.ge, k.row h.row ?_⟩
  intro i hi
  cases ao with
  | none => simp [Value.ownBlock] at hi
  | some a => exact hs i (.inr ⟨a, rfl, by simpa [Value.ownBlock] using hi.symm⟩)
theorem Held.drewN (h : Held w n₀ t e sz b cs ao n cap xs) (q : Nat) : Held (w.drewN q) n₀ t e sz b cs ao n cap xs := ⟨h.block, h.ge, h.row⟩
theorem Held.alloc (h : Held w n₀ t e sz b cs ao n cap xs) (o : Obj) : Held (w.alloc o) n₀ t e sz b cs ao n cap xs := h.keeps ((Keeps.refl (fun _ => False) w).alloc o) (fun _ _ e => e)
theorem Held.old (h : Held w n₀ t e sz b cs ao n cap xs) (k : Below w.heap.size w w') : Held w' n₀ t e sz b cs ao n cap xs := h.keeps (Keeps.ofOld k (fun _ => False)) (fun _ _ e => e)
theorem Held.len (h : Held w n₀ t e sz b cs ao n cap xs) : xs.length = n * sz := h.row.1

/-- a new struct without a list. -/
theorem Held.new (w : World) (n₀ t e sz : Nat) (cs : List Value) (hn : n₀ ≤ w.heap.size) : Held (w.alloc (.cells (cs ++ [Value.slice none 0 0]).toArray t)) n₀ t e sz w.heap.size cs none 0 0 [] :=
  ⟨heap_alloc_new w _, hn, World.ownsRow_nil _ _ _ _⟩

/-- the block of a struct behind a store into its list's field. -/
theorem block_store {t b : Nat} {w : World} {cs : List Value} {v u : Value} (h : w.heap[b]? = some (.cells (cs ++ [v]).toArray t (0, 0))) :
    (w.setCell ⟨b, cs.length, none⟩ u).heap[b]? = some (.cells (cs ++ [u]).toArray t (0, 0)) := by
  have h2 := heap_setCell_same w b cs.length (cs ++ [v]).toArray t u h
  rw [h2]
  congr 2
  apply Array.ext'
  simp

/-- The list's cells were written (a row of the call's own, the old one or a new one), then the field is stored: what the struct holds now, and what stays. -/
theorem Held.stored {w1 : World} {ao' : Option Addr} {m cap' : Nat} {ys : List Value} (h : Held w n₀ t e sz b cs ao n cap xs) (hte : t ≠ e)
    (hk : Keeps (Foot b ao) w w1) (hb : w1.heap[b]? = w.heap[b]?) (hown : w1.ownsRow n₀ e sz (.slice ao' m cap') m ys) :
    Held (w1.setCell ⟨b, cs.length, none⟩ (.slice ao' m cap')) n₀ t e sz b cs ao' m cap' ys ∧ Keeps (Foot b ao) w (w1.setCell ⟨b, cs.length, none⟩ (.slice ao' m cap')) := by
  have hb1 : w1.heap[b]? = some (.cells (cs ++ [Value.slice ao n cap]).toArray t (0, 0)) := hb.trans h.block
  refine ⟨⟨block_store hb1, h.ge, ?_⟩, hk.setCell (fun _ => .inl rfl) _⟩
  refine ownsRow_setCell_other hown ?_ _
  intro e'
  rcases hown.2 with ⟨h1, _⟩ | ⟨g, cap'', cur, h1, _, hg, _⟩
  · rw [h1] at e'; simp [Value.ownBlock] at e'
  · rw [h1] at e'
    simp [Value.ownBlock] at e'
    subst e'
    have := hb1.symm.trans hg
    simp at this
    exact hte this.2
end

/-- the ints of a list, as cells. -/
def ints (l : List Int) : List Value := l.map (Value.int .i64)
theorem ints_len (l : List Int) : (ints l).length = l.length := by simp [ints]
theorem ints_snoc (l : List Int) (x : Int) : ints (l ++ [x]) = ints l ++ [.int .i64 x] := by simp [ints]
theorem ints_append (l k : List Int) : ints (l ++ k) = ints l ++ ints k := by simp [ints]
theorem ints_get (l : List Int) (j : Nat) (h : j < l.length) : (ints l)[j]? = some (.int .i64 (l[j]?.getD 0)) := by simp [ints, h]
theorem ints_one (l : List Int) : ∀ u ∈ ints l, u.oneCell' = true := by
  intro u hu
  obtain ⟨x, _, rfl⟩ := List.mem_map.1 hu
  rfl

/-- a row of ints: its cells. -/
theorem row_cell {w : World} {n₀ e cap : Nat} {ao : Option Addr} {l : List Int} (h : w.ownsRow n₀ e 1 (.slice ao l.length cap) l.length (ints l)) (j : Nat) (hj : j < l.length) :
    ∃ g, ao = some ⟨g, 0, none⟩ ∧ w.cell? ⟨g, j, none⟩ = some (.int .i64 (l[j]?.getD 0)) := by
  rcases h.2 with ⟨h1, h2⟩ | ⟨g, cap', cur, h1, _⟩
  · omega
  · cases h1
    exact ⟨g, rfl, (h.cellAt j (by omega)).trans (ints_get l j hj)⟩

/-- 'append(s, x...)', s a list of the call's own (nil too), x a list of the call's own (nil too), it may grow. -/
theorem run_append_row {P : Program} (w : World) (base base' : Nat) (t ty e : TypeId) (i : TypeInfo) (z : Value) (size bytes : Nat) (ht : P.underlying t = some (.slice e)) (hi : P.info? e = some i) (hz : i.zero = some z)
    (hsize : i.size = size) (hby : i.bytes = bytes) (hzs : z.cells.size = size) (hsz : 0 < size)
    (v : Value) (n : Nat) (xs : List Value) (hown : w.ownsRow base e size v n xs)
    (ao : Option Addr) (m c : Nat) (news : List Value) (hsrc : w.ownsRow base' e size (.slice ao m c) m news) (h1 : ∀ u ∈ news, u.oneCell' = true)
    (h63 : n + m ≤ maxLen) (hbytes : (n + m) * bytes ≤ 140737488355328) (hbase : base ≤ w.heap.size) :
    ∃ v' w', (Builtin.append_ #[t, t] ty #[v, .slice ao m c]).run P w = .ok v' w' ∧ w'.ownsRow base e size v' (n + m) (xs ++ news) ∧ w.grownBy w' v.ownBlock ∧
      (v'.ownBlock = v.ownBlock ∨ v'.ownBlock = some w.heap.size) := by
  rcases hsrc.2 with ⟨h2, rfl⟩ | ⟨g, cap', cur, h2, _⟩
  · cases h2
    have hn : news = [] := List.length_eq_zero_iff.1 (by simpa using hsrc.1)
    subst hn
    refine ⟨v, w, run_append_owned_none (P := P) (w := w) base t ty e i size ht hi v n xs hown, ?_, ⟨rfl, rfl, rfl, Nat.le_refl _, fun _ _ _ => rfl⟩, .inl rfl⟩
    rw [List.append_nil]; exact hown
  · cases h2
    obtain ⟨v', w', hr, a1, a2, _, a3⟩ := run_append_own_at (P := P) w base t ty e i z size bytes ht hi hz hsize hby hzs hsz v n xs hown ⟨g, 0, none⟩ m c news hsrc.1 (hsrc.cells (g := g) rfl) h1 h63 hbytes hbase
    exact ⟨v', w', hr, a1, a2, a3⟩

theorem wpList_append_row {P : Program} (w : World) {ops : Array Oper} {rest : List Oper} {o : Oper} {a : Act} {Q : Exit → Act → World → Prop} (hgd : o.guard = none) (s x : Operand) (t : TypeId)
    (ho : o.op = .call { callee := .builtin .append, args := #[s, x], argTypes := #[t, t] })
    (base base' : Nat) (e : TypeId) (i : TypeInfo) (z : Value) (size bytes : Nat) (ht : P.underlying t = some (.slice e)) (hi : P.info? e = some i) (hz : i.zero = some z)
    (hsize : i.size = size) (hby : i.bytes = bytes) (hzs : z.cells.size = size) (hsz : 0 < size)
    (v : Value) (n : Nat) (xs : List Value) (hs : a.eval s = v) (hown : w.ownsRow base e size v n xs)
    (ao : Option Addr) (m c : Nat) (news : List Value) (hx : a.eval x = .slice ao m c) (hsrc : w.ownsRow base' e size (.slice ao m c) m news) (h1 : ∀ u ∈ news, u.oneCell' = true)
    (h63 : n + m ≤ maxLen) (hbytes : (n + m) * bytes ≤ 140737488355328) (hbase : base ≤ w.heap.size)
    (h : ∀ v' w', w'.ownsRow base e size v' (n + m) (xs ++ news) → w.grownBy w' v.ownBlock → (v'.ownBlock = v.ownBlock ∨ v'.ownBlock = some w.heap.size) → wpList P ops Q rest (a.put o.dst v') w') :
    wpList P ops Q (o :: rest) a w := by
  refine wpList_plain hgd fun K hK => ?_
  obtain ⟨v', w', hr, h2, h3, h4⟩ := run_append_row (P := P) w base base' t o.type e i z size bytes ht hi hz hsize hby hzs hsz v n xs hown ao m c news hsrc h1 h63 hbytes hbase
  unfold Oper.wp execOp
  simp only [ho, resolve, invoke, builtin, Sem.run_bind, Sem.run_pure, Result.andThen_ok, List.map_toArray, List.map_cons, List.map_nil, hs, hx, hr]
  exact hK _ _ (h v' w' h2 h3 h4)

/-- a list's value, out of what it owns. -/
theorem row_form {w : World} {n₀ e sz : Nat} {v : Value} {n : Nat} {xs : List Value} (h : w.ownsRow n₀ e sz v n xs) : ∃ ao cap, v = .slice ao n cap := by
  rcases h.2 with ⟨h1, rfl⟩ | ⟨g, cap, cur, h1, _⟩
  · exact ⟨none, 0, h1⟩
  · exact ⟨_, cap, h1⟩

/-- a list in new memory, about to be stored into a struct's field. -/
theorem fresh_step {w w2 : World} {n₀ t e sz b cap : Nat} {cs : List Value} {ao : Option Addr} {n m : Nat} {xs ys : List Value} {v : Value} (h : Held w n₀ t e sz b cs ao n cap xs) (hb : Below w.heap.size w w2)
    (hown : w2.ownsRow w.heap.size e sz v m ys) (hn : n₀ ≤ w.heap.size) :
    Keeps (Foot b ao) w w2 ∧ w2.heap[b]? = w.heap[b]? ∧ ∃ ao' cap', v = .slice ao' m cap' ∧ Near ao ao' w.heap.size ∧ w2.ownsRow n₀ e sz (.slice ao' m cap') m ys := by
  refine ⟨Keeps.ofOld hb _, hb.block b h.lt, ?_⟩
  have hm : w2.ownsRow n₀ e sz v m ys := by
    refine ⟨hown.1, ?_⟩
    rcases hown.2 with h1 | ⟨g, c, cur, h1, h2, r⟩
    · exact .inl h1
    · exact .inr ⟨g, c, cur, h1, by omega, r⟩
  obtain ⟨ao', cap', rfl⟩ := row_form hown
  refine ⟨ao', cap', rfl, ?_, hm⟩
  intro a' ha'
  exact .inr (hown.lt a'.block (by rw [ha']; rfl)).1

/-- an append as one step of a region that draws its order: a list of the call's own grows by cells that lie at an address. -/
theorem step_append_at {P : Program} (w : World) {ops : Array Oper} {o : Oper} {a : Act} {K : Act → World → Prop} {Q : Exit → Act → World → Prop} {E : Prop} (hgd : o.guard = none) (s x : Operand) (t : TypeId)
    (ho : o.op = .call { callee := .builtin .append, args := #[s, x], argTypes := #[t, t] })
    (base : Nat) (e : TypeId) (i : TypeInfo) (z : Value) (size bytes : Nat) (ht : P.underlying t = some (.slice e)) (hi : P.info? e = some i) (hz : i.zero = some z)
    (hsize : i.size = size) (hby : i.bytes = bytes) (hzs : z.cells.size = size) (hsz : 0 < size)
    (v : Value) (n : Nat) (xs : List Value) (hs : a.eval s = v) (hown : w.ownsRow base e size v n xs)
    (ad : Addr) (m c : Nat) (news : List Value) (hx : a.eval x = .slice (some ad) m c) (hl : news.length = m * size) (hnews : ∀ j u, news[j]? = some u → w.cell? (ad.add j) = some u) (h1 : ∀ u ∈ news, u.oneCell' = true)
    (h63 : n + m ≤ maxLen) (hbytes : (n + m) * bytes ≤ 140737488355328) (hbase : base ≤ w.heap.size) (k : Nat) (hk : n + m = k) (ys : List Value) (hy : xs ++ news = ys)
    (h : ∀ ao' cap' w', w'.ownsRow base e size (.slice ao' k cap') k ys → w.grownBy w' v.ownBlock → K (a.put o.dst (.slice ao' k cap')) w') :
    if Region.wanted o (yielded ops a.tmps) = true then Oper.wp P o a w K Q else E := by
  have hw : Region.wanted o (yielded ops a.tmps) = true := by simp [Region.wanted, hgd]
  rw [if_pos hw]
  obtain ⟨v', w', hr, h2, h3, _, _⟩ := run_append_own_at (P := P) w base t o.type e i z size bytes ht hi hz hsize hby hzs hsz v n xs hown ad m c news hl hnews h1 h63 hbytes hbase
  obtain ⟨ao', cap', rfl⟩ := row_form h2
  subst hk
  subst hy
  unfold Oper.wp
  simp [execOp, ho, resolve, invoke, builtin, hs, hx, hr, Result.andThen]
  exact h ao' cap' w' h2 h3

/-- what a list owns hangs on the blocks alone. -/
theorem row_heap {W w : World} {n₀ e sz : Nat} {v : Value} {n : Nat} {xs : List Value} (hh : W.heap = w.heap) (h : w.ownsRow n₀ e sz v n xs) : W.ownsRow n₀ e sz v n xs := by
  unfold World.ownsRow at h ⊢
  rw [hh]
  exact h
theorem below_new {w W w1 : World} {row : Option Nat} (o : Obj) (hg : W.grownBy w1 row) (hh : W.heap = (w.alloc o).heap) (ho : W.os = w.os) (ht : W.tape = w.tape) (hp : W.output = w.output) (hr : ∀ k, row = some k → w.heap.size ≤ k) : Below w.heap.size w w1 := by
  have h0 : Below w.heap.size w W := ⟨ho, ht, hp, by rw [hh]; simp, fun k hk => by rw [hh]; exact Below.heap_alloc w o k hk⟩
  exact h0.grown hg (by rw [hh]; simp) hr

end Go.Proofs.Ytkeedegbfpenjaa.Rg
