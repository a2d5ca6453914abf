/- The memory of Diff: what is gone, fresh and turned, as three lists of the call's own (layer 11, event). -/
import Derived.Test.YtfkbkfaiplhehaaEvPut
import Derived.Maps.OwnIn
namespace Go.Proofs.Ytfkbkfaiplhehaa.Ev
open Go.RowKit
set_option linter.unusedVariables false

theorem own_old {w w' : World} {B n k : Nat} {t : TypeId} {v : Value} {xs : List Value} (h : w.ownsRow B t k v n xs) (g : Below w.heap.size w w') : w'.ownsRow B t k v n xs := by
  refine ⟨h.1, ?_⟩
  rcases h.2 with h | ⟨b, cap, cur, e, h1, h2, h3⟩
  · exact .inl h
  · exact .inr ⟨b, cap, cur, e, h1, by rw [g.block b (Array.getElem?_eq_some_iff.1 h2).1]; exact h2, h3⟩
theorem own_block {w : World} {B n k : Nat} {t : TypeId} {v : Value} {xs : List Value} (h : w.ownsRow B t k v n xs) {b : Nat} (hb : v.ownBlock = some b) : ∃ cur, w.heap[b]? = some (.cells cur t (0, 0)) := by
  rcases h.2 with ⟨rfl, _⟩ | ⟨g, cap, cur, rfl, _, h2, _⟩
  · simp [Value.ownBlock] at hb
  · simp [Value.ownBlock] at hb
    subst hb
    exact ⟨cur, h2⟩
/-- a block of another type isn't a list's own. -/
theorem At.not_row {w : World} {b B n k : Nat} {cs : Array Value} {t e : TypeId} {v : Value} {xs : List Value} (h : At w b cs t) (hr : w.ownsRow B e k v n xs) (hte : t ≠ e) : some b ≠ v.ownBlock := by
  intro hb
  obtain ⟨cur, h2⟩ := own_block hr hb.symm
  rw [show w.heap[b]? = _ from h] at h2
  injection h2 with h2
  injection h2 with _ h2
  exact hte h2
theorem rows_apart {w : World} {B n k B' n' k' : Nat} {t t' : TypeId} {v v' : Value} {xs xs' : List Value} (h : w.ownsRow B t k v n xs) (h' : w.ownsRow B' t' k' v' n' xs') (hte : t ≠ t') : v.ownBlock = none ∨ v.ownBlock ≠ v'.ownBlock := by
  cases hb : v.ownBlock with
  | none => exact .inl rfl
  | some b =>
    refine .inr fun e => ?_
    obtain ⟨cur, h1⟩ := own_block h hb
    obtain ⟨cur', h2⟩ := own_block h' e.symm
    rw [h1] at h2
    injection h2 with h2
    injection h2 with _ h2
    exact hte h2
theorem own_set {w : World} {B n k b j : Nat} {t : TypeId} {v : Value} {xs : List Value} (h : w.ownsRow B t k v n xs) (hne : some b ≠ v.ownBlock) (u : Value) : (w.setCell ⟨b, j, none⟩ u).ownsRow B t k v n xs := by
  refine ⟨h.1, ?_⟩
  rcases h.2 with h | ⟨g, cap, cur, e, h1, h2, h3⟩
  · exact .inl h
  · refine .inr ⟨g, cap, cur, e, h1, ?_, h3⟩
    subst e
    rw [Below.heap_setCell _ _ _ _ (by intro e; subst e; exact hne rfl)]
    exact h2

/-- one more key at the end of a list of the call's own. -/
theorem cell_four_new (w : World) (y : Ky) (t : TypeId) : ∀ j u, (kcs y)[j]? = some u → (w.alloc (.cells #[.int .i64 y.f, .int .i64 y.e, .int .i64 y.k, .int .i64 y.o] t)).cell? ((⟨w.heap.size, 0, none⟩ : Addr).add j) = some u := by
  intro j u hj
  rw [Addr.add_lit, Nat.zero_add, cell_of_row _ _ _ _ _ _ (At.new w _ t)]
  simpa using hj

/-- how a list of the call's own lies behind an append. -/
def More (B : Nat) (t : TypeId) (k : Nat) (W0 w : World) (v : Value) (n : Nat) (xs : List Value) (v' : Value) (w' : World) : Prop :=
  w'.ownsRow B t k v' n xs ∧ Below B W0 w' ∧ w.grownBy w' v.ownBlock ∧ (v'.ownBlock = v.ownBlock ∨ ∃ b, v'.ownBlock = some b ∧ w.heap.size ≤ b)

theorem appIn_ev {F : Fence} {nF : Nat} {ops : Array Oper} {rest : List Oper} {o : Oper} {a : Act} {Q : Exit → Act → World → Prop} (w : World) (hgd : o.guard = none) (s x : Operand)
    (ho : o.op = .call { callee := .builtin .append, args := #[s, x], argTypes := #[22, 22] })
    (B : Nat) (v : Value) (l : List Ev) (hs : a.eval s = v) (hown : w.ownsRow B 31 9 v l.length (flat ecs l)) (W0 : World) (hB : Below B W0 w) (hB0 : B ≤ W0.heap.size) (y : Ev) (hx : a.eval x = .slice (some ⟨w.heap.size, 0, none⟩) 1 1) (hlen : l.length ≤ 4096)
    (h : ∀ v' w', More B 31 9 W0 w v (l ++ [y]).length (flat ecs (l ++ [y])) v' w' → wpListIn F nF Try.prog ops Q rest (a.put o.dst v') w') :
    wpListIn F nF Try.prog ops Q (o :: rest) a (w.alloc (.cells #[.int .i64 y.key.f, .int .i64 y.key.e, .int .i64 y.key.k, .int .i64 y.key.o, .int .i64 y.a, .int .i64 y.g, .int .i64 y.p, .int .i64 y.r, .int .i64 y.l] 31)) := by
  obtain ⟨i0, hi, hz0, hz1, hz2⟩ := info_parts info_event
  have hsz := hB.size
  refine wpListIn_append_own_at _ hgd s x 22 ho B 31 i0 (ev zeroE) 9 72 Try.underlying22 hi hz0 hz1 hz2 rfl (by decide) v l.length (flat ecs l) hs (hown.alloc _) ⟨w.heap.size, 0, none⟩ 1 1 (ecs y) hx rfl (cell_nine_new w y _) (ecs_one y) (by unfold maxLen; omega) (by omega) (by simp; omega) ?_
  intro v' w' h1 h2 _ h3
  have hg : w.grownBy w' v.ownBlock := (World.grownBy_alloc w _ v.ownBlock).trans h2
  refine h v' w' ⟨?_, ?_, hg, ?_⟩
  · rw [flat_snoc, List.length_append, List.length_singleton]
    exact h1
  · exact hB.grown hg (by omega) (fun k e => (hown.lt k e).1)
  · rcases h3 with h3 | h3
    · exact .inl h3
    · exact .inr ⟨_, h3, by simp⟩
theorem appIn_ky {F : Fence} {nF : Nat} {ops : Array Oper} {rest : List Oper} {o : Oper} {a : Act} {Q : Exit → Act → World → Prop} (w : World) (hgd : o.guard = none) (s x : Operand)
    (ho : o.op = .call { callee := .builtin .append, args := #[s, x], argTypes := #[36, 36] })
    (B : Nat) (v : Value) (l : List Ky) (hs : a.eval s = v) (hown : w.ownsRow B 24 4 v l.length (flat kcs l)) (W0 : World) (hB : Below B W0 w) (hB0 : B ≤ W0.heap.size) (y : Ky) (hx : a.eval x = .slice (some ⟨w.heap.size, 0, none⟩) 1 1) (hlen : l.length ≤ 4096)
    (h : ∀ v' w', More B 24 4 W0 w v (l ++ [y]).length (flat kcs (l ++ [y])) v' w' → wpListIn F nF Try.prog ops Q rest (a.put o.dst v') w') :
    wpListIn F nF Try.prog ops Q (o :: rest) a (w.alloc (.cells #[.int .i64 y.f, .int .i64 y.e, .int .i64 y.k, .int .i64 y.o] 24)) := by
  obtain ⟨i0, hi, hz0, hz1, hz2⟩ := info_parts info_key
  have hsz := hB.size
  refine wpListIn_append_own_at _ hgd s x 36 ho B 24 i0 (kv zeroK) 4 32 Try.underlying36 hi hz0 hz1 hz2 rfl (by decide) v l.length (flat kcs l) hs (hown.alloc _) ⟨w.heap.size, 0, none⟩ 1 1 (kcs y) hx rfl (cell_four_new w y _) (kcs_one y) (by unfold maxLen; omega) (by omega) (by simp; omega) ?_
  intro v' w' h1 h2 _ h3
  have hg : w.grownBy w' v.ownBlock := (World.grownBy_alloc w _ v.ownBlock).trans h2
  refine h v' w' ⟨?_, ?_, hg, ?_⟩
  · rw [flat_snoc, List.length_append, List.length_singleton]
    exact h1
  · exact hB.grown hg (by omega) (fun k e => (hown.lt k e).1)
  · rcases h3 with h3 | h3
    · exact .inl h3
    · exact .inr ⟨_, h3, by simp⟩

/-- what is gone, fresh and turned: block C holds the three lists. -/
structure Dm (w W : World) (C : Nat) (g f t : Value) (lg : List Ky) (lf lt : List Ev) : Prop where
  ch : At W C #[g, f, t] 38
  hC : w.heap.size ≤ C
  og : W.ownsRow w.heap.size 24 4 g lg.length (flat kcs lg)
  of : W.ownsRow w.heap.size 31 9 f lf.length (flat ecs lf)
  ot : W.ownsRow w.heap.size 31 9 t lt.length (flat ecs lt)
  ne : f.ownBlock = none ∨ f.ownBlock ≠ t.ownBlock
  old : Below w.heap.size w W
theorem Dm.below {w W W' : World} {C : Nat} {g f t : Value} {lg : List Ky} {lf lt : List Ev} (h : Dm w W C g f t lg lf lt) (b : Below W.heap.size W W') : Dm w W' C g f t lg lf lt :=
  ⟨h.ch.below b, h.hC, own_old h.og b, own_old h.of b, own_old h.ot b, h.ne, bt h.old b⟩
theorem Dm.kept {w W W' : World} {C : Nat} {g f t : Value} {lg : List Ky} {lf lt : List Ev} (h : Dm w W C g f t lg lf lt) {row : Option Nat} (hg : W.grownBy W' row) (hr : ∀ r, row = some r → W.heap.size ≤ r ∨ ∃ o : Obj, W.heap[r]? = some o ∧ o.isCells = false) (hw : ∀ r, row = some r → w.heap.size ≤ r) : Dm w W' C g f t lg lf lt := by
  have key : ∀ {b : Nat} {cs : Array Value} {T : TypeId}, W.heap[b]? = some (.cells cs T (0, 0)) → some b ≠ row := by
    intro b cs T hb e
    rcases hr b e.symm with h1 | ⟨o, ho, hc⟩
    · have := (Array.getElem?_eq_some_iff.1 hb).1
      omega
    · rw [hb] at ho
      cases ho
      cases hc
  have kr : ∀ {B n k : Nat} {T : TypeId} {v : Value} {xs : List Value}, W.ownsRow B T k v n xs → v.ownBlock = none ∨ v.ownBlock ≠ row := by
    intro B n k T v xs hv
    cases hb : v.ownBlock with
    | none => exact .inl rfl
    | some b =>
      obtain ⟨cur, h1⟩ := own_block hv hb
      exact .inr (fun e => key h1 e)
  exact ⟨h.ch.kept hg (key h.ch), h.hC, h.og.kept hg (kr h.og), h.of.kept hg (kr h.of), h.ot.kept hg (kr h.ot), h.ne, h.old.grown hg h.old.size hw⟩
theorem Dm.appG {w W W' : World} {C : Nat} {g f t v' : Value} {lg : List Ky} {lf lt : List Ev} {y : Ky} (h : Dm w W C g f t lg lf lt) (m : More w.heap.size 24 4 w W g (lg ++ [y]).length (flat kcs (lg ++ [y])) v' W') :
    At W' C #[g, f, t] 38 ∧ Dm w (W'.setCell ⟨C, 0, none⟩ v') C v' f t (lg ++ [y]) lf lt := by
  obtain ⟨m1, m2, m3, m4⟩ := m
  have hc : At W' C #[g, f, t] 38 := h.ch.kept m3 (h.ch.not_row h.og (by decide))
  have hf := h.of.kept m3 (rows_apart h.of h.og (by decide))
  have ht := h.ot.kept m3 (rows_apart h.ot h.og (by decide))
  refine ⟨hc, heap_setCell_same W' C 0 _ _ v' hc, h.hC, own_set m1 (hc.not_row m1 (by decide)) _, own_set hf (hc.not_row hf (by decide)) _, own_set ht (hc.not_row ht (by decide)) _, h.ne, m2.setCell (p := ⟨C, 0, none⟩) h.hC _⟩
theorem Dm.appF {w W W' : World} {C : Nat} {g f t v' : Value} {lg : List Ky} {lf lt : List Ev} {y : Ev} (h : Dm w W C g f t lg lf lt) (m : More w.heap.size 31 9 w W f (lf ++ [y]).length (flat ecs (lf ++ [y])) v' W') :
    At W' C #[g, f, t] 38 ∧ Dm w (W'.setCell ⟨C, 1, none⟩ v') C g v' t lg (lf ++ [y]) lt := by
  obtain ⟨m1, m2, m3, m4⟩ := m
  have hc : At W' C #[g, f, t] 38 := h.ch.kept m3 (h.ch.not_row h.of (by decide))
  have hg := h.og.kept m3 (rows_apart h.og h.of (by decide))
  have hne : t.ownBlock = none ∨ t.ownBlock ≠ f.ownBlock := by
    rcases h.ne with h1 | h1
    · cases hb : t.ownBlock with
      | none => exact .inl rfl
      | some b => rw [h1]; exact .inr (by simp)
    · exact .inr (Ne.symm h1)
  have ht := h.ot.kept m3 hne
  refine ⟨hc, heap_setCell_same W' C 1 _ _ v' hc, h.hC, own_set hg (hc.not_row hg (by decide)) _, own_set m1 (hc.not_row m1 (by decide)) _, own_set ht (hc.not_row ht (by decide)) _, ?_, m2.setCell (p := ⟨C, 1, none⟩) h.hC _⟩
  rcases m4 with h1 | ⟨b, h1, h2⟩
  · rw [h1]; exact h.ne
  · refine .inr fun e => ?_
    have := (h.ot.lt b (by rw [← e]; exact h1)).2
    omega
theorem Dm.appT {w W W' : World} {C : Nat} {g f t v' : Value} {lg : List Ky} {lf lt : List Ev} {y : Ev} (h : Dm w W C g f t lg lf lt) (m : More w.heap.size 31 9 w W t (lt ++ [y]).length (flat ecs (lt ++ [y])) v' W') :
    At W' C #[g, f, t] 38 ∧ Dm w (W'.setCell ⟨C, 2, none⟩ v') C g f v' lg lf (lt ++ [y]) := by
  obtain ⟨m1, m2, m3, m4⟩ := m
  have hc : At W' C #[g, f, t] 38 := h.ch.kept m3 (h.ch.not_row h.ot (by decide))
  have hg := h.og.kept m3 (rows_apart h.og h.ot (by decide))
  have hf := h.of.kept m3 h.ne
  refine ⟨hc, heap_setCell_same W' C 2 _ _ v' hc, h.hC, own_set hg (hc.not_row hg (by decide)) _, own_set hf (hc.not_row hf (by decide)) _, own_set m1 (hc.not_row m1 (by decide)) _, ?_, m2.setCell (p := ⟨C, 2, none⟩) h.hC _⟩
  rcases m4 with h1 | ⟨b, h1, h2⟩
  · rw [h1]; exact h.ne
  · cases hb : f.ownBlock with
    | none => exact .inl rfl
    | some b' =>
      refine .inr fun e => ?_
      rw [h1] at e
      injection e with e
      have := (h.of.lt b' hb).2
      omega

end Go.Proofs.Ytfkbkfaiplhehaa.Ev
