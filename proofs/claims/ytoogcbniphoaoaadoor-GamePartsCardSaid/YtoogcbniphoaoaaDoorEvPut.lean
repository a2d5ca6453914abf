/- An event put among some in order, as the document says it; one more event at the end of a list of the call's own (layer 11, event). -/
import Derived.Test.YtoogcbniphoaoaaDoorEvCl
import Derived.Test.YtoogcbniphoaoaaDoorEvF
import Derived.Laws.AppendOwnNone
namespace Go.Proofs.YtoogcbniphoaoaaDoor.Ev
open Go.RowKit
open Go.Sort hiding Below
set_option linter.unusedVariables false

theorem cell_nine_new (w : World) (y : Ev) (t : TypeId) : ∀ j u, (ecs y)[j]? = some u → (w.alloc (.cells #[.int .i64 y.key.f, .int .i64 y.key.e, .int .i64 y.key.k, .int .i64 y.key.o, .int .i64 y.a, .int .i64 y.g, .int .i64 y.p, .int .i64 y.r, .int .i64 y.l] t)).cell? ((⟨w.heap.size, 0, none⟩ : Addr).add j) = some u := by
  intro j u hj
  rw [Addr.add_lit, Nat.zero_add, cell_of_row _ _ _ _ _ _ (At.new w _ t)]
  simpa using hj
/-- one more event at the end of a list of the call's own. -/
theorem app_ev {ops : Array Oper} {rest : List Oper} {o : Oper} {a : Act} {Q : Exit → Act → World → Prop} (w : World) (hgd : o.guard = none) (s x : Operand)
    (ho : o.op = .call { callee := .builtin .append, args := #[s, x], argTypes := #[37, 37] })
    (B : Nat) (v : Value) (l : List Ev) (hs : a.eval s = v) (hown : w.ownsRow B 45 9 v l.length (flat ecs l)) (W0 : World) (hB : Below B W0 w) (hB0 : B ≤ W0.heap.size) (y : Ev) (hx : a.eval x = .slice (some ⟨w.heap.size, 0, none⟩) 1 1) (hlen : l.length ≤ 4096)
    (h : ∀ v' w', w'.ownsRow B 45 9 v' (l ++ [y]).length (flat ecs (l ++ [y])) → Below B W0 w' → w.grownBy w' v.ownBlock → (v'.ownBlock = v.ownBlock ∨ ∃ b, v'.ownBlock = some b ∧ w.heap.size ≤ b) → wpList Tryd.prog ops Q rest (a.put o.dst v') w') :
    wpList Tryd.prog ops Q (o :: rest) a (w.alloc (.cells #[.int .i64 y.key.f, .int .i64 y.key.e, .int .i64 y.key.k, .int .i64 y.key.o, .int .i64 y.a, .int .i64 y.g, .int .i64 y.p, .int .i64 y.r, .int .i64 y.l] 45)) := by
  obtain ⟨i0, hi, hz0, hz1, hz2⟩ := info_parts info_event
  have hsz := hB.size
  refine wpList_append_own_at _ hgd s x 37 ho B 45 i0 (ev zeroE) 9 72 Tryd.underlying37 hi hz0 hz1 hz2 rfl (by decide) v l.length (flat ecs l) hs (hown.alloc _) ⟨w.heap.size, 0, none⟩ 1 1 (ecs y) hx rfl (cell_nine_new w y _) (ecs_one y) (by unfold maxLen; omega) (by omega) (by simp; omega) ?_
  intro v' w' h1 h2 _ h3
  have hg : w.grownBy w' v.ownBlock := (World.grownBy_alloc w _ v.ownBlock).trans h2
  refine h v' w' ?_ ?_ hg ?_
  · rw [flat_snoc, List.length_append, List.length_singleton]
    exact h1
  · exact hB.grown hg (by omega) (fun k e => (hown.lt k e).1)
  · rcases h3 with h3 | h3
    · exact .inl h3
    · exact .inr ⟨_, h3, by simp⟩

theorem own_gr {w w' : World} {B n k : Nat} {t : TypeId} {v : Value} {xs : List Value} (h : w.ownsRow B t k v n xs) (g : Gr w w') : w'.ownsRow B t k v n xs := h.kept g.grownBy (by cases v.ownBlock <;> simp)
theorem below_gr {W0 w w' : World} {B : Nat} (h : Below B W0 w) (hB : B ≤ W0.heap.size) (g : Gr w w') : Below B W0 w' := h.trans (g.below.mono (Nat.le_trans hB h.size))
theorem owns_base {w : World} {B B' n k : Nat} {t : TypeId} {v : Value} {xs : List Value} (h : w.ownsRow B t k v n xs) (hB : B' ≤ B) : w.ownsRow B' t k v n xs := by
  refine ⟨h.1, ?_⟩
  rcases h.2 with h | ⟨g, cap, cur, e, h1, h2⟩
  · exact .inl h
  · exact .inr ⟨g, cap, cur, e, Nat.le_trans hB h1, h2⟩

theorem put_some {e : Ev} : ∀ {a : List Ev} (b : List Ev), (a.any fun x => decide (cmpK e.key x.key ≤ 0)) = true → putL e (a ++ b) = putL e a ++ b
  | [], _, h => by simp at h
  | y :: a, b, h => by
    rw [List.cons_append]
    unfold putL
    split
    · simp
    · rename_i hc
      have : (a.any fun x => decide (cmpK e.key x.key ≤ 0)) = true := by simpa [hc] using h
      rw [put_some b this]
      simp
theorem put_none {e : Ev} : ∀ {a : List Ev} (b : List Ev), (a.any fun x => decide (cmpK e.key x.key ≤ 0)) = false → putL e (a ++ b) = a ++ putL e b
  | [], _, _ => rfl
  | y :: a, b, h => by
    have hc : ¬ cmpK e.key y.key ≤ 0 := by
      intro hc
      simp [hc] at h
    have h2 : (a.any fun x => decide (cmpK e.key x.key ≤ 0)) = false := by simpa [hc] using h
    rw [List.cons_append]
    conv => lhs; unfold putL
    rw [if_neg hc, put_none b h2]
    rfl
/-- what Put has made behind k events. -/
def half (e : Ev) (a : List Ev) : List Ev := if (a.any fun x => decide (cmpK e.key x.key ≤ 0)) = true then putL e a else a
theorem half_len (e : Ev) (a : List Ev) : (half e a).length ≤ a.length + 1 := by
  unfold half
  split
  · rw [put_len]; exact Nat.le_refl _
  · omega

end Go.Proofs.YtoogcbniphoaoaaDoor.Ev
