/- Lists of events as rows; their clones (layer 11, event). -/
/- What stays of a memory when some blocks are written: blocks of structs whose last field is a list of the call's own; plain facts on worlds, of no program. -/
/- What slices.Delete leaves of a list of the call's own: what stood ahead, what stood behind, and zero values beyond its new length; plain facts on rows of cells, of no program. -/
/- What slices.Insert leaves of a list of the call's own; plain facts on rows of cells, of no program. -/
import Derived.Test.YtfclnhmijjlhdaaGreatDoorJ5
import Derived.Shelf.SlGeneric
import Derived.Shelf.SlLaysF0
import Derived.Lib.SliceRun
import Derived.WalkKit
import Derived.RangeFuncBox
import Derived.Deep.Draws
import Derived.Maps.AppendAt
import Derived.Lib.Overlaps
import Derived.Deep.AppendSrc
namespace Go.Proofs
namespace YtfclnhmijjlhdaaGreatDoor.Ev
open Go.RowKit Go.Shelf Go.Lib
open Go.Sort hiding Below
set_option linter.unusedVariables false

theorem info_event : (Tryz.prog.info? 120).map (fun i => (i.zero, i.size, i.bytes)) = some (some (ev zeroE), 9, 72) := by kernel_rfl
theorem info_key : (Tryz.prog.info? 118).map (fun i => (i.zero, i.size, i.bytes)) = some (some (kv zeroK), 4, 32) := by kernel_rfl

theorem row_flat {α : Type} {enc : α → List Value} {k : Nat} (hk : ∀ x, (enc x).length = k) (h0 : 0 < k) {w : World} {ad : Addr} {l : List α} (h : Row enc k w (some ad) l) : ∀ j u, (flat enc l)[j]? = some u → w.cell? (ad.add j) = some u := by
 intro j u hj
 have hlt : j < l.length * k := by rw [← flat_len hk]; exact (List.getElem?_eq_some_iff.1 hj).1
 have hl : 0 < l.length := by
  rcases Nat.eq_zero_or_pos l.length with e | e
  · rw [e] at hlt; simp at hlt
  · exact e
 obtain ⟨b, o, e, hb, hc⟩ := h hl
 injection e with e
 subst e
 have hq : j / k < l.length := Nat.div_lt_of_lt_mul (by rw [Nat.mul_comm]; exact hlt)
 have hm : j % k < k := Nat.mod_lt _ h0
 have hjj : j / k * k + j % k = j := by rw [Nat.mul_comm]; exact Nat.div_add_mod j k
 have h1 := flat_at hk l (j / k) hq (j % k) hm
 rw [hjj, hj] at h1
 have h2 := hc (j / k) hq (j % k) u h1.symm
 rw [Nat.add_assoc, hjj] at h2
 rw [Addr.add_lit]
 exact h2

set_option maxRecDepth 100000 in
set_option maxHeartbeats 400000 in
theorem clone_c (v : Value) (l : List Ev) (w : World) (h : Evs w v l) (hl : l.length ≤ 4096) :
 Calls Tryz.prog 113 #[v] w fun e w' => ∃ v', e = .returned v' ∧ w'.ownsRow w.heap.size 120 9 v' l.length (flat ecs l) ∧ Below w.heap.size w w' := by
 obtain ⟨ao, L, cap, rfl, hL, hc, hm, ht⟩ := h
 have q22 : ∀ (w : World) (a : Option Addr) (n c n' c' : Nat), (binOp .eql 49 (.slice a n c) (.slice none n' c')).run Tryz.prog w = .ok (.bool a.isNone) w := fun w a n c n' c' => Lib.run_eql_slice_nil w _ _ a n c n' c' Tryz.underlying49
 obtain ⟨i0, hi, hz0, hz1, hz2⟩ := info_parts info_event
 cases ao with
 | none =>
  have h0 : l.length = 0 := by
   rcases Nat.eq_zero_or_pos l.length with e | e
   · exact e
   · obtain ⟨b, o, e, _⟩ := ht e
     cases e
  have hnil : l = [] := List.length_eq_zero_iff.1 h0
  subst hnil
  clear ht
  go_enter Tryz.func113, Tryz.ntmps113
  go_wp2_with fail
  go_ret
  exact ⟨_, rfl, World.ownsRow_nil _ _ _ _, br w⟩
 | some ad =>
  have HF := hid (row_flat (k := 9) (fun _ => rfl) (by decide) (ht.below (bal (br w) (.cells #[] 120))))
  have HL := hid hL
  subst hL
  clear ht
  go_enter Tryz.func113, Tryz.ntmps113
  have hfl : (flat ecs l).length = l.length * 9 := flat_len (enc := ecs) (fun _ => rfl) l
  have HFL := hid hfl
  clear hfl
  go_wp2_with (at_builtin; refine wpList_append_own_at _ rfl _ _ 49 rfl w.heap.size 120 i0 (ev zeroE) 9 72 Tryz.underlying49 hi hz0 hz1 hz2 rfl (by decide) _ _ _ rfl (World.ownsRow_made w #[] 0 (Nat.le_refl _) (Nat.zero_le _) (by simp)) ad l.length cap (flat ecs l) rfl HFL.out HF.out (flat_cell ecs_one l) (by unfold maxLen; omega) (by omega) (by simp) ?_; intro v1 w1 hown1 hg1 _ _)
  go_ret
  refine ⟨_, rfl, by simpa using hown1, ?_⟩
  exact (bal (br w) _).grown hg1 (by simp) (fun k e => by cases e; exact Nat.le_refl _)


end YtfclnhmijjlhdaaGreatDoor.Ev
end Go.Proofs

namespace Go.Proofs.YtfclnhmijjlhdaaGreatDoor.Rg
open Go.RowKit

theorem hid {p : Prop} (h : p) : Hid p := h

/-- w' is w with new blocks, and with writes to the blocks of S alone. -/
structure Keeps (S : Nat → Prop) (w w' : World) : Prop where
 os : w'.os = w.os
 tape : w'.tape = w.tape
 output : w'.output = w.output
 size : w.heap.size ≤ w'.heap.size
 block : ∀ k, k < w.heap.size → ¬ S k → w'.heap[k]? = w.heap[k]?

theorem Keeps.refl (S : Nat → Prop) (w : World) : Keeps S w w := ⟨rfl, rfl, rfl, Nat.le_refl _, fun _ _ _ => rfl⟩
theorem Keeps.drewN (S : Nat → Prop) (w : World) (q : Nat) : Keeps S w (w.drewN q) := ⟨rfl, rfl, rfl, Nat.le_refl _, fun _ _ _ => rfl⟩
theorem Keeps.trans {S S' : Nat → Prop} {a b c : World} (h : Keeps S a b) (k : Keeps S' b c) (hs : ∀ i, i < a.heap.size → S' i → S i) : Keeps S a c :=
 ⟨k.os.trans h.os, k.tape.trans h.tape, k.output.trans h.output, Nat.le_trans h.size k.size,
  fun i hi hn => (k.block i (Nat.lt_of_lt_of_le hi h.size) (fun e => hn (hs i hi e))).trans (h.block i hi hn)⟩
theorem Keeps.mono {S S' : Nat → Prop} {a b : World} (h : Keeps S a b) (hs : ∀ i, i < a.heap.size → S i → S' i) : Keeps S' a b :=
 ⟨h.os, h.tape, h.output, h.size, fun i hi hn => h.block i hi (fun e => hn (hs i hi e))⟩
theorem Keeps.alloc {S : Nat → Prop} {a w : World} (h : Keeps S a w) (o : Obj) : Keeps S a (w.alloc o) :=
 h.trans (S' := fun _ => False) ⟨rfl, rfl, rfl, by simp, fun k hk _ => Below.heap_alloc _ _ _ hk⟩ (fun _ _ e => e.elim)
theorem Keeps.setCell {S : Nat → Prop} {a w : World} (h : Keeps S a w) {p : Addr} (hp : p.block < a.heap.size → S p.block) (u : Value) : Keeps S a (w.setCell p u) :=
 h.trans (S' := fun k => k = p.block) ⟨rfl, rfl, rfl, by simp [World.setCell], fun k _ hn => Below.heap_setCell _ _ _ _ hn⟩ (fun i hi e => by subst e; exact hp hi)
theorem Keeps.drew {S : Nat → Prop} {a w : World} (h : Keeps S a w) (q : Nat) : Keeps S a (w.drewN q) :=
 ⟨h.os, h.tape, h.output, h.size, h.block⟩
theorem Keeps.drew1 {S : Nat → Prop} {a w : World} (h : Keeps S a w) : Keeps S a w.drew :=
 ⟨h.os, h.tape, h.output, h.size, h.block⟩
theorem Keeps.grown {S : Nat → Prop} {a w w' : World} {row : Option Nat} (h : Keeps S a w) (hg : w.grownBy w' row) (hr : ∀ k, row = some k → k < a.heap.size → S k) : Keeps S a w' :=
 h.trans (S' := fun k => row = some k) ⟨hg.os, hg.tape, hg.output, hg.size, fun k hk hn => hg.block k hk (fun e => hn e.symm)⟩ (fun i hi e => hr i e hi)
theorem Keeps.below {S : Nat → Prop} {n : Nat} {a b : World} (h : Keeps S a b) (hn : n ≤ a.heap.size) (hs : ∀ k, S k → n ≤ k) : Below n a b :=
 ⟨h.os, h.tape, h.output, h.size, fun k hk => h.block k (by omega) (fun e => by have := hs k e; omega)⟩
theorem Keeps.ofBelow {n : Nat} {a b : World} (h : Below n a b) : Keeps (fun k => n ≤ k) a b :=
 ⟨h.os, h.tape, h.output, h.size, fun k _ hn => h.block k (by omega)⟩
theorem Keeps.ofOld {a b : World} (h : Below a.heap.size a b) (S : Nat → Prop) : Keeps S a b :=
 ⟨h.os, h.tape, h.output, h.size, fun k hk _ => h.block k hk⟩
theorem Keeps.row {S : Nat → Prop} {a b : World} (h : Keeps S a b) {n e sz : Nat} {v : Value} {m : Nat} {xs : List Value} (hr : a.ownsRow n e sz v m xs) (hv : ∀ k, v.ownBlock = some k → ¬ S k) : b.ownsRow n e sz v m xs := by
 refine ⟨hr.1, ?_⟩
 rcases hr.2 with hn | ⟨g, cap, cur, rfl, hb, hgg, rest⟩
 · exact .inl hn
 · refine .inr ⟨g, cap, cur, rfl, hb, ?_, rest⟩
   rw [h.block g (Array.getElem?_eq_some_iff.1 hgg).1 (hv g rfl)]
   exact hgg

/-- a list's value: its address, its length, its capacity. -/
abbrev sl (ao : Option Addr) (n cap : Nat) : Value := .slice ao n cap

/-- Block b is a struct whose cells are cs and then a list (of n elements of type e, sz cells each) that owns the cells xs; both lie from n₀ on. -/
structure Held (w : World) (n₀ t e sz b : Nat) (cs : List Value) (ao : Option Addr) (n cap : Nat) (xs : List Value) : Prop where
 block : w.heap[b]? = some (.cells (cs ++ [Value.slice ao n cap]).toArray t (0, 0))
 ge : n₀ ≤ b
 row : w.ownsRow n₀ e sz (.slice ao n cap) n xs

/-- the blocks that such a struct's calls may write. -/
def Foot (b : Nat) (ao : Option Addr) (k : Nat) : Prop := k = b ∨ ∃ a, ao = some a ∧ k = a.block
/-- the list lies where it lay, or in a new block. -/
def Near (ao ao' : Option Addr) (N : Nat) : Prop := ∀ a', ao' = some a' → (∃ a, ao = some a ∧ a.block = a'.block) ∨ N ≤ a'.block

theorem Near.refl (ao : Option Addr) (N : Nat) : Near ao ao N := fun a' h => .inl ⟨a', h, rfl⟩
theorem Near.trans {x y z : Option Addr} {N M : Nat} (h : Near x y N) (k : Near y z M) (hm : N ≤ M) : Near x z N := by
 intro a ha
 rcases k a ha with ⟨b, hb, e⟩ | h1
 · rcases h b hb with ⟨c, hc, e'⟩ | h2
   · exact .inl ⟨c, hc, e'.trans e⟩
   · exact .inr (by omega)
 · exact .inr (by omega)

section
variable {w w' : World} {n₀ t e sz b : Nat} {cs : List Value} {ao : Option Addr} {n cap : Nat} {xs : List Value}

theorem Held.lt (h : Held w n₀ t e sz b cs ao n cap xs) : b < w.heap.size := (Array.getElem?_eq_some_iff.1 h.block).1
theorem Held.cell (h : Held w n₀ t e sz b cs ao n cap xs) (j : Nat) : w.cell? ⟨b, j, none⟩ = (cs ++ [Value.slice ao n cap])[j]? := by
 rw [cell_of_row w b j _ _ _ h.block]; simp
theorem Held.frozen (h : Held w n₀ t e sz b cs ao n cap xs) (j : Nat) : w.frozen? ⟨b, j, none⟩ = false := frozen_of_row w b j _ _ h.block
theorem Held.form (h : Held w n₀ t e sz b cs ao n cap xs) : (ao = none ∧ n = 0 ∧ cap = 0) ∨ ∃ g cur, ao = some ⟨g, 0, none⟩ ∧ n₀ ≤ g ∧ w.heap[g]? = some (.cells cur e (0, 0)) ∧ n ≤ cap ∧ cap ≤ maxLen ∧ cur.size = cap * sz ∧ cur.toList.take (n * sz) = xs := by
 rcases h.row.2 with ⟨h1, h2⟩ | ⟨g, cap', cur, h1, r⟩
 · cases h1; exact .inl ⟨rfl, rfl, rfl⟩
 · cases h1; exact .inr ⟨g, cur, rfl, r⟩
theorem Held.capLe (h : Held w n₀ t e sz b cs ao n cap xs) : n ≤ cap ∧ cap ≤ maxLen := by
 rcases h.form with ⟨_, rfl, rfl⟩ | ⟨_, _, _, _, _, h1, h2, _⟩
 · exact ⟨Nat.le_refl _, by unfold maxLen; omega⟩
 · exact ⟨h1, h2⟩
theorem Held.apart (h : Held w n₀ t e sz b cs ao n cap xs) (hte : t ≠ e) : ∀ a, ao = some a → a.block ≠ b := by
 intro a ha hb
 rcases h.form with ⟨h1, _⟩ | ⟨g, cur, rfl, _, hg, _⟩
 · rw [h1] at ha; cases ha
 · cases ha
   simp only at hb
   subst hb
   have := h.block.symm.trans hg
   simp at this
   exact hte this.2
theorem Held.footGe (h : Held w n₀ t e sz b cs ao n cap xs) : ∀ k, Foot b ao k → n₀ ≤ k := by
 rintro k (rfl | ⟨a, ha, rfl⟩)
 · exact h.ge
 · rcases h.form with ⟨h1, _⟩ | ⟨g, cur, rfl, hg, _⟩
   · rw [h1] at ha; cases ha
   · cases ha; exact hg
theorem Held.footLt (h : Held w n₀ t e sz b cs ao n cap xs) : ∀ k, Foot b ao k → k < w.heap.size := by
 rintro k (rfl | ⟨a, ha, rfl⟩)
 · exact h.lt
 · rcases h.form with ⟨h1, _⟩ | ⟨g, cur, rfl, hg, hh, _⟩
   · rw [h1] at ha; cases ha
   · cases ha; exact (Array.getElem?_eq_some_iff.1 hh).1
theorem Held.keeps {S : Nat → Prop} (h : Held w n₀ t e sz b cs ao n cap xs) (k : Keeps S w w') (hs : ∀ i, Foot b ao i → ¬ S i) : Held w' n₀ t e sz b cs ao n cap xs := by
 refine ⟨(k.block b h.lt (hs b (.inl rfl))).trans h.block, h.ge, k.row h.row ?_⟩
 intro i hi
 cases ao with
 | none => simp [Value.ownBlock] at hi
 | some a => exact hs i (.inr ⟨a, rfl, by simpa [Value.ownBlock] using hi.symm⟩)
theorem Held.drewN (h : Held w n₀ t e sz b cs ao n cap xs) (q : Nat) : Held (w.drewN q) n₀ t e sz b cs ao n cap xs := ⟨h.block, h.ge, h.row⟩
theorem Held.alloc (h : Held w n₀ t e sz b cs ao n cap xs) (o : Obj) : Held (w.alloc o) n₀ t e sz b cs ao n cap xs := h.keeps ((Keeps.refl (fun _ => False) w).alloc o) (fun _ _ e => e)
theorem Held.old (h : Held w n₀ t e sz b cs ao n cap xs) (k : Below w.heap.size w w') : Held w' n₀ t e sz b cs ao n cap xs := h.keeps (Keeps.ofOld k (fun _ => False)) (fun _ _ e => e)
theorem Held.len (h : Held w n₀ t e sz b cs ao n cap xs) : xs.length = n * sz := h.row.1

/-- a new struct without a list. -/
theorem Held.new (w : World) (n₀ t e sz : Nat) (cs : List Value) (hn : n₀ ≤ w.heap.size) : Held (w.alloc (.cells (cs ++ [Value.slice none 0 0]).toArray t)) n₀ t e sz w.heap.size cs none 0 0 [] :=
 ⟨heap_alloc_new w _, hn, World.ownsRow_nil _ _ _ _⟩

/-- the block of a struct behind a store into its list's field. -/
theorem block_store {t b : Nat} {w : World} {cs : List Value} {v u : Value} (h : w.heap[b]? = some (.cells (cs ++ [v]).toArray t (0, 0))) :
 (w.setCell ⟨b, cs.length, none⟩ u).heap[b]? = some (.cells (cs ++ [u]).toArray t (0, 0)) := by
 have h2 := heap_setCell_same w b cs.length (cs ++ [v]).toArray t u h
 rw [h2]
 congr 2
 apply Array.ext'
 simp

/-- The list's cells were written (a row of the call's own, the old one or a new one), then the field is stored: what the struct holds now, and what stays. -/
theorem Held.stored {w1 : World} {ao' : Option Addr} {m cap' : Nat} {ys : List Value} (h : Held w n₀ t e sz b cs ao n cap xs) (hte : t ≠ e)
 (hk : Keeps (Foot b ao) w w1) (hb : w1.heap[b]? = w.heap[b]?) (hown : w1.ownsRow n₀ e sz (.slice ao' m cap') m ys) :
 Held (w1.setCell ⟨b, cs.length, none⟩ (.slice ao' m cap')) n₀ t e sz b cs ao' m cap' ys ∧ Keeps (Foot b ao) w (w1.setCell ⟨b, cs.length, none⟩ (.slice ao' m cap')) := by
 have hb1 : w1.heap[b]? = some (.cells (cs ++ [Value.slice ao n cap]).toArray t (0, 0)) := hb.trans h.block
 refine ⟨⟨block_store hb1, h.ge, ?_⟩, hk.setCell (fun _ => .inl rfl) _⟩
 refine ownsRow_setCell_other hown ?_ _
 intro e'
 rcases hown.2 with ⟨h1, _⟩ | ⟨g, cap'', cur, h1, _, hg, _⟩
 · rw [h1] at e'; simp [Value.ownBlock] at e'
 · rw [h1] at e'
   simp [Value.ownBlock] at e'
   subst e'
   have := hb1.symm.trans hg
   simp at this
   exact hte this.2
end

/-- the ints of a list, as cells. -/
def ints (l : List Int) : List Value := l.map (Value.int .i64)
theorem ints_len (l : List Int) : (ints l).length = l.length := by simp [ints]
theorem ints_snoc (l : List Int) (x : Int) : ints (l ++ [x]) = ints l ++ [.int .i64 x] := by simp [ints]
theorem ints_append (l k : List Int) : ints (l ++ k) = ints l ++ ints k := by simp [ints]
theorem ints_get (l : List Int) (j : Nat) (h : j < l.length) : (ints l)[j]? = some (.int .i64 (l[j]?.getD 0)) := by simp [ints, h]
theorem ints_one (l : List Int) : ∀ u ∈ ints l, u.oneCell' = true := by
 intro u hu
 obtain ⟨x, _, rfl⟩ := List.mem_map.1 hu
 rfl

/-- a row of ints: its cells. -/
theorem row_cell {w : World} {n₀ e cap : Nat} {ao : Option Addr} {l : List Int} (h : w.ownsRow n₀ e 1 (.slice ao l.length cap) l.length (ints l)) (j : Nat) (hj : j < l.length) :
 ∃ g, ao = some ⟨g, 0, none⟩ ∧ w.cell? ⟨g, j, none⟩ = some (.int .i64 (l[j]?.getD 0)) := by
 rcases h.2 with ⟨h1, h2⟩ | ⟨g, cap', cur, h1, _⟩
 · omega
 · cases h1
   exact ⟨g, rfl, (h.cellAt j (by omega)).trans (ints_get l j hj)⟩

/-- 'append(s, x...)', s a list of the call's own (nil too), x a list of the call's own (nil too), it may grow. -/
theorem run_append_row {P : Program} (w : World) (base base' : Nat) (t ty e : TypeId) (i : TypeInfo) (z : Value) (size bytes : Nat) (ht : P.underlying t = some (.slice e)) (hi : P.info? e = some i) (hz : i.zero = some z)
 (hsize : i.size = size) (hby : i.bytes = bytes) (hzs : z.cells.size = size) (hsz : 0 < size)
 (v : Value) (n : Nat) (xs : List Value) (hown : w.ownsRow base e size v n xs)
 (ao : Option Addr) (m c : Nat) (news : List Value) (hsrc : w.ownsRow base' e size (.slice ao m c) m news) (h1 : ∀ u ∈ news, u.oneCell' = true)
 (h63 : n + m ≤ maxLen) (hbytes : (n + m) * bytes ≤ 140737488355328) (hbase : base ≤ w.heap.size) :
 ∃ v' w', (Builtin.append_ #[t, t] ty #[v, .slice ao m c]).run P w = .ok v' w' ∧ w'.ownsRow base e size v' (n + m) (xs ++ news) ∧ w.grownBy w' v.ownBlock ∧
  (v'.ownBlock = v.ownBlock ∨ v'.ownBlock = some w.heap.size) := by
 rcases hsrc.2 with ⟨h2, rfl⟩ | ⟨g, cap', cur, h2, _⟩
 · cases h2
   have hn : news = [] := List.length_eq_zero_iff.1 (by simpa using hsrc.1)
   subst hn
   refine ⟨v, w, run_append_owned_none (P := P) (w := w) base t ty e i size ht hi v n xs hown, ?_, ⟨rfl, rfl, rfl, Nat.le_refl _, fun _ _ _ => rfl⟩, .inl rfl⟩
   rw [List.append_nil]; exact hown
 · cases h2
   obtain ⟨v', w', hr, a1, a2, _, a3⟩ := run_append_own_at (P := P) w base t ty e i z size bytes ht hi hz hsize hby hzs hsz v n xs hown ⟨g, 0, none⟩ m c news hsrc.1 (hsrc.cells (g := g) rfl) h1 h63 hbytes hbase
   exact ⟨v', w', hr, a1, a2, a3⟩

theorem wpList_append_row {P : Program} (w : World) {ops : Array Oper} {rest : List Oper} {o : Oper} {a : Act} {Q : Exit → Act → World → Prop} (hgd : o.guard = none) (s x : Operand) (t : TypeId)
 (ho : o.op = .call { callee := .builtin .append, args := #[s, x], argTypes := #[t, t] })
 (base base' : Nat) (e : TypeId) (i : TypeInfo) (z : Value) (size bytes : Nat) (ht : P.underlying t = some (.slice e)) (hi : P.info? e = some i) (hz : i.zero = some z)
 (hsize : i.size = size) (hby : i.bytes = bytes) (hzs : z.cells.size = size) (hsz : 0 < size)
 (v : Value) (n : Nat) (xs : List Value) (hs : a.eval s = v) (hown : w.ownsRow base e size v n xs)
 (ao : Option Addr) (m c : Nat) (news : List Value) (hx : a.eval x = .slice ao m c) (hsrc : w.ownsRow base' e size (.slice ao m c) m news) (h1 : ∀ u ∈ news, u.oneCell' = true)
 (h63 : n + m ≤ maxLen) (hbytes : (n + m) * bytes ≤ 140737488355328) (hbase : base ≤ w.heap.size)
 (h : ∀ v' w', w'.ownsRow base e size v' (n + m) (xs ++ news) → w.grownBy w' v.ownBlock → (v'.ownBlock = v.ownBlock ∨ v'.ownBlock = some w.heap.size) → wpList P ops Q rest (a.put o.dst v') w') :
 wpList P ops Q (o :: rest) a w := by
 refine wpList_plain hgd fun K hK => ?_
 obtain ⟨v', w', hr, h2, h3, h4⟩ := run_append_row (P := P) w base base' t o.type e i z size bytes ht hi hz hsize hby hzs hsz v n xs hown ao m c news hsrc h1 h63 hbytes hbase
 unfold Oper.wp execOp
 simp only [ho, resolve, invoke, builtin, Sem.run_bind, Sem.run_pure, Result.andThen_ok, List.map_toArray, List.map_cons, List.map_nil, hs, hx, hr]
 exact hK _ _ (h v' w' h2 h3 h4)

/-- a list's value, out of what it owns. -/
theorem row_form {w : World} {n₀ e sz : Nat} {v : Value} {n : Nat} {xs : List Value} (h : w.ownsRow n₀ e sz v n xs) : ∃ ao cap, v = .slice ao n cap := by
 rcases h.2 with ⟨h1, rfl⟩ | ⟨g, cap, cur, h1, _⟩
 · exact ⟨none, 0, h1⟩
 · exact ⟨_, cap, h1⟩

/-- a list in new memory, about to be stored into a struct's field. -/
theorem fresh_step {w w2 : World} {n₀ t e sz b cap : Nat} {cs : List Value} {ao : Option Addr} {n m : Nat} {xs ys : List Value} {v : Value} (h : Held w n₀ t e sz b cs ao n cap xs) (hb : Below w.heap.size w w2)
 (hown : w2.ownsRow w.heap.size e sz v m ys) (hn : n₀ ≤ w.heap.size) :
 Keeps (Foot b ao) w w2 ∧ w2.heap[b]? = w.heap[b]? ∧ ∃ ao' cap', v = .slice ao' m cap' ∧ Near ao ao' w.heap.size ∧ w2.ownsRow n₀ e sz (.slice ao' m cap') m ys := by
 refine ⟨Keeps.ofOld hb _, hb.block b h.lt, ?_⟩
 have hm : w2.ownsRow n₀ e sz v m ys := by
  refine ⟨hown.1, ?_⟩
  rcases hown.2 with h1 | ⟨g, c, cur, h1, h2, r⟩
  · exact .inl h1
  · exact .inr ⟨g, c, cur, h1, by omega, r⟩
 obtain ⟨ao', cap', rfl⟩ := row_form hown
 refine ⟨ao', cap', rfl, ?_, hm⟩
 intro a' ha'
 exact .inr (hown.lt a'.block (by rw [ha']; rfl)).1

/-- an append as one step of a region that draws its order: a list of the call's own grows by cells that lie at an address. -/
theorem step_append_at {P : Program} (w : World) {ops : Array Oper} {o : Oper} {a : Act} {K : Act → World → Prop} {Q : Exit → Act → World → Prop} {E : Prop} (hgd : o.guard = none) (s x : Operand) (t : TypeId)
 (ho : o.op = .call { callee := .builtin .append, args := #[s, x], argTypes := #[t, t] })
 (base : Nat) (e : TypeId) (i : TypeInfo) (z : Value) (size bytes : Nat) (ht : P.underlying t = some (.slice e)) (hi : P.info? e = some i) (hz : i.zero = some z)
 (hsize : i.size = size) (hby : i.bytes = bytes) (hzs : z.cells.size = size) (hsz : 0 < size)
 (v : Value) (n : Nat) (xs : List Value) (hs : a.eval s = v) (hown : w.ownsRow base e size v n xs)
 (ad : Addr) (m c : Nat) (news : List Value) (hx : a.eval x = .slice (some ad) m c) (hl : news.length = m * size) (hnews : ∀ j u, news[j]? = some u → w.cell? (ad.add j) = some u) (h1 : ∀ u ∈ news, u.oneCell' = true)
 (h63 : n + m ≤ maxLen) (hbytes : (n + m) * bytes ≤ 140737488355328) (hbase : base ≤ w.heap.size) (k : Nat) (hk : n + m = k) (ys : List Value) (hy : xs ++ news = ys)
 (h : ∀ ao' cap' w', w'.ownsRow base e size (.slice ao' k cap') k ys → w.grownBy w' v.ownBlock → K (a.put o.dst (.slice ao' k cap')) w') :
 if Region.wanted o (yielded ops a.tmps) = true then Oper.wp P o a w K Q else E := by
 have hw : Region.wanted o (yielded ops a.tmps) = true := by simp [Region.wanted, hgd]
 rw [if_pos hw]
 obtain ⟨v', w', hr, h2, h3, _, _⟩ := run_append_own_at (P := P) w base t o.type e i z size bytes ht hi hz hsize hby hzs hsz v n xs hown ad m c news hl hnews h1 h63 hbytes hbase
 obtain ⟨ao', cap', rfl⟩ := row_form h2
 subst hk
 subst hy
 unfold Oper.wp
 simp [execOp, ho, resolve, invoke, builtin, hs, hx, hr, Result.andThen]
 exact h ao' cap' w' h2 h3

/-- what a list owns hangs on the blocks alone. -/
theorem row_heap {W w : World} {n₀ e sz : Nat} {v : Value} {n : Nat} {xs : List Value} (hh : W.heap = w.heap) (h : w.ownsRow n₀ e sz v n xs) : W.ownsRow n₀ e sz v n xs := by
 unfold World.ownsRow at h ⊢
 rw [hh]
 exact h
theorem below_new {w W w1 : World} {row : Option Nat} (o : Obj) (hg : W.grownBy w1 row) (hh : W.heap = (w.alloc o).heap) (ho : W.os = w.os) (ht : W.tape = w.tape) (hp : W.output = w.output) (hr : ∀ k, row = some k → w.heap.size ≤ k) : Below w.heap.size w w1 := by
 have h0 : Below w.heap.size w W := ⟨ho, ht, hp, by rw [hh]; simp, fun k hk => by rw [hh]; exact Below.heap_alloc w o k hk⟩
 exact h0.grown hg (by rw [hh]; simp) hr

end Go.Proofs.YtfclnhmijjlhdaaGreatDoor.Rg

namespace Go.Proofs.YtfclnhmijjlhdaaGreatDoor.Rg
open Go.RowKit

/-- cells laid into an array from a place on. -/
def splice (cur : Array Value) (o : Nat) : List Value → Array Value
 | [] => cur
 | v :: r => splice (cur.setIfInBounds o v) (o + 1) r

theorem splice_size : ∀ (vs : List Value) (cur : Array Value) (o : Nat), (splice cur o vs).size = cur.size
 | [], _, _ => rfl
 | v :: r, cur, o => by rw [splice, splice_size r]; simp

theorem splice_get : ∀ (vs : List Value) (cur : Array Value) (o j : Nat), o + vs.length ≤ cur.size → (splice cur o vs)[j]? = if o ≤ j ∧ j < o + vs.length then vs[j - o]? else cur[j]?
 | [], cur, o, j, _ => by simp [splice]; intro h1 h2; omega
 | v :: r, cur, o, j, h => by
  simp only [List.length_cons] at h
  rw [splice, splice_get r _ _ _ (by simp; omega)]
  by_cases h1 : o + 1 ≤ j ∧ j < o + 1 + r.length
  · rw [if_pos h1, if_pos (by simp; omega), show j - o = (j - (o + 1)) + 1 by omega]; rfl
  · rw [if_neg h1, Array.getElem?_setIfInBounds]
    by_cases h2 : o = j
    · subst h2
      rw [if_pos rfl, if_pos (by omega), if_pos (by simp)]
      simp
    · rw [if_neg h2, if_neg (by simp; omega)]

theorem setCells_block (g : Nat) (e : TypeId) : ∀ (vs : List Value) (o : Nat) (w : World) (cur : Array Value), w.heap[g]? = some (.cells cur e (0, 0)) → (w.setCells g o vs).heap[g]? = some (.cells (splice cur o vs) e (0, 0))
 | [], _, _, _, h => h
 | v :: r, o, w, cur, h => by
  rw [World.setCells, splice]
  exact setCells_block g e r (o + 1) _ _ (heap_setCell_same w g o cur e v h)

theorem setCells_grown (g : Nat) : ∀ (vs : List Value) (o : Nat) (w : World), w.grownBy (w.setCells g o vs) (some g)
 | [], _, w => ⟨rfl, rfl, rfl, Nat.le_refl _, fun _ _ _ => rfl⟩
 | v :: r, o, w => by
  rw [World.setCells]
  have h1 : w.grownBy (w.setCell ⟨g, o, none⟩ v) (some g) := ⟨rfl, rfl, rfl, by simp, fun k _ hk => heap_setCell_other w ⟨g, o, none⟩ k v (fun e => hk (by simp [e]))⟩
  exact h1.trans (setCells_grown g r (o + 1) _)

theorem grownBy_drewN (w : World) (q : Nat) (row : Option Nat) : w.grownBy (w.drewN q) row := ⟨rfl, rfl, rfl, Nat.le_refl _, fun _ _ _ => rfl⟩

/-- a list read by its places. -/
theorem take_splice {cur : Array Value} {vs : List Value} {o m : Nat} (h : o + vs.length ≤ cur.size) (hm : m ≤ o) : (splice cur o vs).toList.take m = cur.toList.take m := by
 apply List.ext_getElem?
 intro j
 rw [List.getElem?_take, List.getElem?_take]
 by_cases hj : j < m
 · rw [if_pos hj, if_pos hj, Array.getElem?_toList, Array.getElem?_toList, splice_get vs cur o j h, if_neg (by omega)]
 · rw [if_neg hj, if_neg hj]
theorem take_splice_all {cur : Array Value} {vs : List Value} {o : Nat} (h : o + vs.length ≤ cur.size) : (splice cur o vs).toList.take (o + vs.length) = cur.toList.take o ++ vs := by
 apply List.ext_getElem?
 intro j
 have hl : (cur.toList.take o).length = o := by rw [List.length_take, Array.length_toList]; omega
 rw [List.getElem?_take, List.getElem?_append, hl]
 by_cases hj : j < o + vs.length
 · rw [if_pos hj, Array.getElem?_toList, splice_get vs cur o j h]
   by_cases h1 : o ≤ j
   · rw [if_pos ⟨h1, hj⟩, if_neg (by omega)]
   · rw [if_neg (by omega), if_pos (by omega), List.getElem?_take, if_pos (by omega), Array.getElem?_toList]
 · rw [if_neg hj, if_neg (by omega), List.getElem?_eq_none (by omega)]

section
variable {w : World} {n₀ e sz g n cap : Nat} {xs : List Value}

/-- the elements from i up to j go: those behind move up, what comes free holds zs. -/
theorem del_own (h : w.ownsRow n₀ e sz (.slice (some ⟨g, 0, none⟩) n cap) n xs) {i j : Nat} (hij : i ≤ j) (hj : j ≤ n) (q : Nat) (zs : List Value) (hz : zs.length = (j - i) * sz) :
 (((w.drewN q).setCells g (i * sz) (xs.drop (j * sz))).setCells g ((i + (n - j)) * sz) zs).ownsRow n₀ e sz (.slice (some ⟨g, 0, none⟩) (i + (n - j)) cap) (i + (n - j)) (xs.take (i * sz) ++ xs.drop (j * sz)) ∧
 w.grownBy (((w.drewN q).setCells g (i * sz) (xs.drop (j * sz))).setCells g ((i + (n - j)) * sz) zs) (some g) := by
 refine ⟨?_, ((grownBy_drewN w q _).trans (setCells_grown g _ _ _)).trans (setCells_grown g _ _ _)⟩
 have hlen := h.1
 have hjs : j * sz ≤ n * sz := Nat.mul_le_mul_right _ hj
 have his : i * sz ≤ j * sz := Nat.mul_le_mul_right _ hij
 have hsum : (i + (n - j)) * sz = i * sz + (n * sz - j * sz) := by rw [Nat.add_mul, Nat.sub_mul]
 have hz' : zs.length = j * sz - i * sz := by rw [hz, Nat.sub_mul]
 rcases h.2 with ⟨h1, _⟩ | ⟨g', cap', cur, h1, hb, hg, hnc, hcm, hcs, ht⟩
 · simp at h1
 · cases h1
   have hnc' : n * sz ≤ cap * sz := Nat.mul_le_mul_right _ hnc
   have hd : (xs.drop (j * sz)).length = n * sz - j * sz := by rw [List.length_drop, hlen]
   refine ⟨by rw [List.length_append, List.length_take, hd, hlen, hsum]; omega, .inr ⟨g, cap, _, rfl, hb, setCells_block g e _ _ _ _ (setCells_block g e _ _ _ _ hg), by omega, hcm, by rw [splice_size, splice_size]; exact hcs, ?_⟩⟩
   rw [take_splice (by rw [splice_size]; omega) (Nat.le_refl _), hsum, ← hd, take_splice_all (by omega), ← ht, List.take_take, Nat.min_eq_left (by omega)]

/-- the cells of a row, asked from a place on. -/
theorem row_from (h : w.ownsRow n₀ e sz (.slice (some ⟨g, 0, none⟩) n cap) n xs) (o : Nat) : ∀ t u, (xs.drop o)[t]? = some u → w.cell? ⟨g, o + t, none⟩ = some u := by
 intro t u hu
 rw [List.getElem?_drop] at hu
 have hlt : o + t < xs.length := (List.getElem?_eq_some_iff.1 hu).1
 rw [h.cellAt (o + t) (by rw [← h.1]; exact hlt)]
 exact hu
/-- every cell of its capacity is there, and may be written. -/
theorem row_there (h : w.ownsRow n₀ e sz (.slice (some ⟨g, 0, none⟩) n cap) n xs) (k : Nat) (hk : k < cap * sz) : (w.cell? ⟨g, k, none⟩).isSome = true ∧ w.frozen? ⟨g, k, none⟩ = false := by
 refine ⟨?_, h.frozenAt k⟩
 rcases h.2 with ⟨h1, _⟩ | ⟨g', cap', cur, h1, hb, hg, hnc, hcm, hcs, ht⟩
 · simp at h1
 · cases h1
   rw [cell_of_row w g k cur e (0, 0) hg, Array.getElem?_eq_getElem (by omega)]
   rfl
/-- they are there behind cells that were laid. -/
theorem there_set (vs : List Value) (o k : Nat) (h : (w.cell? ⟨g, k, none⟩).isSome = true ∧ w.frozen? ⟨g, k, none⟩ = false) (cur : Array Value) (hg : w.heap[g]? = some (.cells cur e (0, 0))) :
 ((w.setCells g o vs).cell? ⟨g, k, none⟩).isSome = true ∧ (w.setCells g o vs).frozen? ⟨g, k, none⟩ = false := by
 refine ⟨?_, (World.frozen?_setCells g _ _ _ _).trans h.2⟩
 have h1 := h.1
 rw [cell_of_row w g k cur e (0, 0) hg] at h1
 rw [cell_of_row _ g k _ e (0, 0) (setCells_block g e vs o w cur hg)]
 have : k < cur.size := by
  by_cases hk : k < cur.size
  · exact hk
  · rw [Array.getElem?_eq_none (by omega)] at h1; simp at h1
 rw [Array.getElem?_eq_getElem (by rw [splice_size]; exact this)]
 rfl
end

/-- 'clear(s)', s of n > 0 elements of sz cells each: the cells hold the element type's zero value. -/
theorem run_clear_k {P : Program} (w : World) (t e ty : TypeId) (z : Value) (zs : List Value) (ht : P.underlying t = some (.slice e)) (hv : ∀ w, (zeroValue e).run P w = .ok z w) (b o n c : Nat) (hn : 0 < n)
 (hz : (Builtin.zeroCells z.cells n).toList = zs) (h1 : ∀ v ∈ zs, v.oneCell' = true)
 (hc : ∀ j, j < zs.length → (w.cell? ⟨b, o + j, none⟩).isSome = true) (hf : ∀ j, j < zs.length → w.frozen? ⟨b, o + j, none⟩ = false) :
 (Builtin.clear_ #[t] ty #[.slice (some ⟨b, o, none⟩) n c]).run P w = .ok (.tuple #[]) (w.setCells b o zs) := by
 have hst := run_storeCells_cells (P := P) b o zs 0 w (by simpa using hc) (by simpa using hf) h1
 simp only [Nat.add_zero] at hst
 obtain ⟨m, rfl⟩ : ∃ m, n = m + 1 := ⟨n - 1, by omega⟩
 simp [Builtin.clear_, run_underlying ht, hv, hz, hst]

theorem zeros_one (n : Nat) : (Builtin.zeroCells (Value.int .i64 0).cells n).toList = List.replicate n (.int .i64 0) := by
 show (Builtin.zeroCells #[Value.int .i64 0] n).toList = _
 simp [Builtin.zeroCells]
 apply List.ext_getElem
 · simp
 · intro i h1 h2
   simp [Nat.mod_one]

end Go.Proofs.YtfclnhmijjlhdaaGreatDoor.Rg

namespace Go.Proofs.YtfclnhmijjlhdaaGreatDoor.Rg
open Go.RowKit

/-- 'copy(d, s)' of elements of sz cells each. -/
theorem run_copy_k {P : Program} (w : World) (dT sT ty elem : TypeId) (i : TypeInfo) (sz : Nat) (b o dLen dCap : Nat) (a : Addr) (sLen sCap : Nat) (cs : List Value)
 (hu : P.underlying dT = some (.slice elem)) (hi : P.info? elem = some i) (hs : i.size = sz) (hn : cs.length = Nat.min sLen dLen * sz)
 (hsrc : ∀ j v, cs[j]? = some v → w.cell? (a.add j) = some v) (hc : ∀ j, j < cs.length → (w.cell? ⟨b, o + j, none⟩).isSome = true) (hf : ∀ j, j < cs.length → w.frozen? ⟨b, o + j, none⟩ = false) (h1 : ∀ v ∈ cs, v.oneCell' = true) :
 (Builtin.copy_ #[dT, sT] ty #[.slice (some ⟨b, o, none⟩) dLen dCap, .slice (some a) sLen sCap]).run P w = .ok (goInt (Nat.min sLen dLen)) (w.setCells b o cs) := by
 subst hs
 have hl := run_firstCells_some (P := P) w i.size (Nat.min sLen dLen) a sLen sCap cs hn hsrc
 have hst := run_storeCells_cells (P := P) b o cs 0 w (by simpa using hc) (by simpa using hf) h1
 simp only [Nat.add_zero] at hst
 simp [Builtin.copy_, run_underlying hu, sizeOf, typeInfo, hi, Builtin.lenOf, hl, hst]

theorem setCells_there {w : World} {g e : Nat} {cur : Array Value} (hg : w.heap[g]? = some (.cells cur e (0, 0))) (k : Nat) (hk : k < cur.size) : (w.cell? ⟨g, k, none⟩).isSome = true ∧ w.frozen? ⟨g, k, none⟩ = false := by
 refine ⟨?_, frozen_of_row w g k cur e hg⟩
 rw [cell_of_row w g k cur e (0, 0) hg, Array.getElem?_eq_getElem hk]
 rfl

/-- the first cells, those laid in, then those behind. -/
theorem take_two {cur : Array Value} {xs ys zs : List Value} {o m : Nat} (hx : cur.toList.take o = xs) (ho : o ≤ cur.size) (hy : o + ys.length + zs.length ≤ cur.size) (hm : m = o + ys.length + zs.length) :
 (splice (splice cur (o + ys.length) zs) o ys).toList.take m = xs ++ ys ++ zs := by
 subst hm
 have hxl : xs.length = o := by rw [← hx, List.length_take, Array.length_toList]; omega
 apply List.ext_getElem?
 intro j
 rw [List.getElem?_take]
 by_cases h1 : j < o
 · rw [if_pos (by omega), Array.getElem?_toList, splice_get _ _ _ _ (by rw [splice_size]; omega), if_neg (by omega), splice_get _ _ _ _ (by omega), if_neg (by omega), List.append_assoc, List.getElem?_append, if_pos (by omega), ← hx, List.getElem?_take, if_pos h1, Array.getElem?_toList]
 · by_cases h2 : j < o + ys.length
   · rw [if_pos (by omega), Array.getElem?_toList, splice_get _ _ _ _ (by rw [splice_size]; omega), if_pos (by omega), List.append_assoc, List.getElem?_append, if_neg (by omega), List.getElem?_append, if_pos (by omega), hxl]
   · by_cases h3 : j < o + ys.length + zs.length
     · rw [if_pos h3, Array.getElem?_toList, splice_get _ _ _ _ (by rw [splice_size]; omega), if_neg (by omega), splice_get _ _ _ _ (by omega), if_pos (by omega), List.append_assoc, List.getElem?_append, if_neg (by omega), List.getElem?_append, if_neg (by omega), hxl]
       congr 1
       omega
     · rw [if_neg h3, List.getElem?_eq_none (by rw [List.length_append, List.length_append]; omega)]

/-- there is room: the elements from i on move back, new cells stand there. -/
theorem ins_own {w : World} {n₀ e sz g n cap : Nat} {xs ys : List Value} (h : w.ownsRow n₀ e sz (.slice (some ⟨g, 0, none⟩) n cap) n xs) {i : Nat} (hi : i ≤ n) (hroom : n + 1 ≤ cap) (hy : ys.length = sz) (q : Nat) :
 (((w.drewN q).setCells g (i * sz + ys.length) (xs.drop (i * sz))).setCells g (i * sz) ys).ownsRow n₀ e sz (.slice (some ⟨g, 0, none⟩) (n + 1) cap) (n + 1) (xs.take (i * sz) ++ ys ++ xs.drop (i * sz)) ∧
 w.grownBy (((w.drewN q).setCells g (i * sz + ys.length) (xs.drop (i * sz))).setCells g (i * sz) ys) (some g) := by
 refine ⟨?_, ((grownBy_drewN w q _).trans (setCells_grown g _ _ _)).trans (setCells_grown g _ _ _)⟩
 have hlen := h.1
 have his : i * sz ≤ n * sz := Nat.mul_le_mul_right _ hi
 have hsum : (n + 1) * sz = n * sz + sz := by rw [Nat.add_mul, Nat.one_mul]
 rcases h.2 with ⟨h1, _⟩ | ⟨g', cap', cur, h1, hb, hg, hnc, hcm, hcs, ht⟩
 · simp at h1
 · cases h1
   have hnc' : (n + 1) * sz ≤ cap * sz := Nat.mul_le_mul_right _ hroom
   have hd : (xs.drop (i * sz)).length = n * sz - i * sz := by rw [List.length_drop, hlen]
   have htk : (xs.take (i * sz)).length = i * sz := by rw [List.length_take, hlen]; omega
   refine ⟨by rw [List.length_append, List.length_append, htk, hd, hsum]; omega, .inr ⟨g, cap, _, rfl, hb, setCells_block g e _ _ _ _ (setCells_block g e _ _ _ _ hg), hroom, hcm, by rw [splice_size, splice_size]; exact hcs, ?_⟩⟩
   refine take_two ?_ (by omega) (by omega) (by omega)
   rw [← ht, List.take_take, Nat.min_eq_left his]

/-- a new array: the first elements, zero values; then new cells, and those behind. -/
theorem ins_new {w : World} {n₀ e sz n cap' : Nat} {xs ys : List Value} {cur : Array Value} (hlen : xs.length = n * sz) {i : Nat} (hi : i ≤ n) (hy : ys.length = sz) (hn : n₀ ≤ w.heap.size) (hcap : n + 1 ≤ cap') (hm : cap' ≤ maxLen)
 (hc : cur.size = cap' * sz) (ht : cur.toList.take (i * sz) = xs.take (i * sz)) :
 (((w.alloc (.cells cur e)).setCells w.heap.size (i * sz) ys).setCells w.heap.size (i * sz + ys.length) (xs.drop (i * sz))).ownsRow n₀ e sz (.slice (some ⟨w.heap.size, 0, none⟩) (n + 1) cap') (n + 1) (xs.take (i * sz) ++ ys ++ xs.drop (i * sz)) ∧
 Below w.heap.size w (((w.alloc (.cells cur e)).setCells w.heap.size (i * sz) ys).setCells w.heap.size (i * sz + ys.length) (xs.drop (i * sz))) := by
 have hB : Below w.heap.size w (w.alloc (.cells cur e)) := (Below.refl _ w).alloc (Nat.le_refl _) _
 have g1 := (setCells_grown w.heap.size ys (i * sz) (w.alloc (.cells cur e))).trans (setCells_grown w.heap.size (xs.drop (i * sz)) (i * sz + ys.length) _)
 refine ⟨?_, hB.grown g1 hB.size (fun k e => by cases e; exact Nat.le_refl _)⟩
 have his : i * sz ≤ n * sz := Nat.mul_le_mul_right _ hi
 have hsum : (n + 1) * sz = n * sz + sz := by rw [Nat.add_mul, Nat.one_mul]
 have hnc' : (n + 1) * sz ≤ cap' * sz := Nat.mul_le_mul_right _ hcap
 have hd : (xs.drop (i * sz)).length = n * sz - i * sz := by rw [List.length_drop, hlen]
 have htk : (xs.take (i * sz)).length = i * sz := by rw [List.length_take, hlen]; omega
 refine ⟨by rw [List.length_append, List.length_append, htk, hd, hsum]; omega, .inr ⟨w.heap.size, cap', _, rfl, hn, setCells_block _ e _ _ _ _ (setCells_block _ e _ _ _ _ (heap_alloc_new w _)), hcap, hm, by rw [splice_size, splice_size]; exact hc, ?_⟩⟩
 rw [hsum, show n * sz + sz = (i * sz + ys.length) + (xs.drop (i * sz)).length by omega, take_splice_all (by rw [splice_size]; omega), take_splice_all (by omega), ht]

end Go.Proofs.YtfclnhmijjlhdaaGreatDoor.Rg
