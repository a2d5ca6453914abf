/- Parts of a block, read and stored at once; answers that lie in a block (layer 12, game). -/
import Derived.Test.YtfclnhmijjlhdaaGreatDoorJ9
import Derived.Laws.Rows
import Derived.Laws.Tables
import Derived.Laws.CopyRow
namespace Go.Proofs.YtfclnhmijjlhdaaGreatDoor.Gm
open Go.RowKit
open Go.Proofs.YtfclnhmijjlhdaaGreatDoor.Ev (At)
set_option linter.unusedVariables false

section
variable {P : Program}
theorem run_storeVar_at (w : World) (g o : Nat) (t ty : TypeId) (old : Array Value) (cells : List Value) (hg : w.heap[g]? = some (.cells old t (0, 0))) (hi : (P.info? ty).map (·.size) = some cells.length)
 (ho : o + cells.length ≤ old.size) (h1 : cells.all (·.oneCell') = true) :
 (storeVar ty ⟨g, o, none⟩ (.agg cells.toArray)).run P w = .ok () (w.setRow g (old.toList.take o ++ cells ++ old.toList.drop (o + cells.length)).toArray) := by
 have := run_storeCells_at P g o t cells 0 old w hg (by omega) (fun v hv => List.all_eq_true.1 h1 v hv)
 cases hq : P.info? ty with
 | none => simp [hq] at hi
 | some i =>
  have hs : cells.length = i.size := by simp [hq] at hi; omega
  simp only [Nat.add_zero] at this
  simp [storeVar, sizeOf, typeInfo, hq, Value.cells, hs, this]
theorem wp_store_at {o : Oper} {a : Act} {w : World} {K : Act → World → Prop} {Q : Exit → Act → World → Prop} (ty : TypeId) (x y : Operand) (ho : o.op = .store ty x y)
 (g k : Nat) (cells : List Value) (hx : a.eval x = .pointer (some ⟨g, k, none⟩)) (hy : a.eval y = .agg cells.toArray)
 (t : TypeId) (old : Array Value) (hg : w.heap[g]? = some (.cells old t (0, 0))) (hi : (P.info? ty).map (·.size) = some cells.length)
 (hold : k + cells.length ≤ old.size) (h1 : cells.all (·.oneCell') = true)
 (h : K (a.put o.dst undef) (w.setRow g (old.toList.take k ++ cells ++ old.toList.drop (k + cells.length)).toArray)) : o.wp P a w K Q := by
 unfold Oper.wp execOp
 simp only [ho, hx, hy, Instr.storeAt, Instr.sureAddr, Sem.run_bind, Sem.run_pure, Result.andThen_ok, run_storeVar_at w g k t ty old cells hg hi hold h1]
 exact h
theorem wpList_store_at {ops : Array Oper} {rest : List Oper} {o : Oper} {a : Act} {w : World} {Q : Exit → Act → World → Prop} (hgd : o.guard = none) (ty : TypeId) (x y : Operand) (ho : o.op = .store ty x y)
 (g k : Nat) (cells : List Value) (hx : a.eval x = .pointer (some ⟨g, k, none⟩)) (hy : a.eval y = .agg cells.toArray)
 (t : TypeId) (old : Array Value) (hg : w.heap[g]? = some (.cells old t (0, 0))) (hi : (P.info? ty).map (·.size) = some cells.length)
 (hold : k + cells.length ≤ old.size) (h1 : cells.all (·.oneCell') = true)
 (h : wpList P ops Q rest (a.put o.dst undef) (w.setRow g (old.toList.take k ++ cells ++ old.toList.drop (k + cells.length)).toArray)) : wpList P ops Q (o :: rest) a w :=
 wpList_plain hgd fun _ hK => wp_store_at ty x y ho g k cells hx hy t old hg hi hold h1 (hK _ _ h)
theorem run_loadVar_at (w : World) (g o : Nat) (t ty : TypeId) (cs : Array Value) (vs : List Value) (fr : Nat × Nat) (d : TypeDesc) (hg : w.heap[g]? = some (.cells cs t fr))
 (hu : P.underlying ty = some d) (hd : (match d with | .struct _ | .array _ _ => true | _ => false) = true) (hi : (P.info? ty).map (·.size) = some vs.length) (hv : ∀ j v, vs[j]? = some v → cs[o + j]? = some v) :
 (loadVar ty ⟨g, o, none⟩).run P w = .ok (.agg vs.toArray) w := by
 have hl : (loadCells ⟨g, o, none⟩ vs.length).run P w = .ok vs.toArray w :=
  run_loadCells_list (P := P) w ⟨g, o, none⟩ vs (fun j v h => by
   rw [Addr.add_lit, cell_of_row w g (o + j) cs t fr hg]
   exact hv j v h)
 cases hq : P.info? ty with
 | none => simp [hq] at hi
 | some i =>
  have hs : i.size = vs.length := by simpa [hq] using hi
  have hagg : (isAgg ty).run P w = .ok true w := by
   unfold isAgg
   rw [Sem.run_bind, run_underlying hu w]
   cases d <;> simp_all
  simp [loadVar, hagg, sizeOf, typeInfo, hq, hs, hl]
theorem wp_load_at {o : Oper} {a : Act} {w : World} {K : Act → World → Prop} {Q : Exit → Act → World → Prop} (ty : TypeId) (x : Operand) (ho : o.op = .load ty x)
 (g k : Nat) (hx : a.eval x = .pointer (some ⟨g, k, none⟩)) (t : TypeId) (cs : Array Value) (vs : List Value) (fr : Nat × Nat) (d : TypeDesc) (hg : w.heap[g]? = some (.cells cs t fr))
 (hu : P.underlying ty = some d) (hd : (match d with | .struct _ | .array _ _ => true | _ => false) = true) (hi : (P.info? ty).map (·.size) = some vs.length) (hv : ∀ j v, vs[j]? = some v → cs[k + j]? = some v)
 (h : K (a.put o.dst (.agg vs.toArray)) w) : o.wp P a w K Q := by
 unfold Oper.wp execOp
 simp only [ho, hx, Instr.loadAt, Instr.sureAddr, Sem.run_bind, Sem.run_pure, Result.andThen_ok, run_loadVar_at w g k t ty cs vs fr d hg hu hd hi hv]
 exact h
theorem wpList_load_at {ops : Array Oper} {rest : List Oper} {o : Oper} {a : Act} {w : World} {Q : Exit → Act → World → Prop} (hgd : o.guard = none) (ty : TypeId) (x : Operand) (ho : o.op = .load ty x)
 (g k : Nat) (hx : a.eval x = .pointer (some ⟨g, k, none⟩)) (t : TypeId) (cs : Array Value) (vs : List Value) (fr : Nat × Nat) (d : TypeDesc) (hg : w.heap[g]? = some (.cells cs t fr))
 (hu : P.underlying ty = some d) (hd : (match d with | .struct _ | .array _ _ => true | _ => false) = true) (hi : (P.info? ty).map (·.size) = some vs.length) (hv : ∀ j v, vs[j]? = some v → cs[k + j]? = some v)
 (h : wpList P ops Q rest (a.put o.dst (.agg vs.toArray)) w) : wpList P ops Q (o :: rest) a w :=
 wpList_plain hgd fun _ hK => wp_load_at ty x ho g k hx t cs vs fr d hg hu hd hi hv (hK _ _ h)
theorem results_cell_tmps {fn : Func} {p u v : Tmp} {ty : TypeId} (h : fn.results = #[.cell p ty, .tmp u, .tmp v]) (tmps : Array Value) (w : World) (g : Nat) (t : TypeId) (cs : Array Value) (fr : Nat × Nat) (d : TypeDesc)
 (hp : tmps.getD p undef = .pointer (some ⟨g, 0, none⟩)) (hg : w.heap[g]? = some (.cells cs t fr))
 (hu : P.underlying ty = some d) (hd : (match d with | .struct _ | .array _ _ => true | _ => false) = true) (hi : (P.info? ty).map (·.size) = some cs.size) :
 (results fn tmps).run P w = .ok (.tuple #[.agg cs, tmps.getD u undef, tmps.getD v undef]) w := by
 have hp' : tmps[p]?.getD undef = .pointer (some ⟨g, 0, none⟩) := by simpa using hp
 simp [results, h, hp', asAddr, run_loadVar_row w g t ty cs fr d hg hu hd hi]
theorem below_row {B : Nat} {w0 w : World} (h : Below B w0 w) {g : Nat} (hg : B ≤ g) (cs : Array Value) : Below B w0 (w.setRow g cs) := by
 refine ⟨h.os, h.tape, h.output, ?_, fun k hk => ?_⟩
 · have := h.size
   simpa [World.setRow] using this
 · rw [← h.block k hk]
   unfold World.setRow
   simp only [Array.getElem?_modify]
   rw [if_neg (by omega)]
theorem at_row {w : World} {g : Nat} {old : Array Value} {T : TypeId} (h : At w g old T) (cs : Array Value) : At (w.setRow g cs) g cs T := setRow_heap w g old cs T (0, 0) h
theorem at_row_far {w : World} {c g : Nat} {cs' : Array Value} {T : TypeId} (h : At w c cs' T) (hn : c ≠ g) (cs : Array Value) : At (w.setRow g cs) c cs' T := by
 unfold At at h ⊢
 rw [← h]
 unfold World.setRow
 simp only [Array.getElem?_modify]
 rw [if_neg (by omega)]
end

/-- the whole state is stored. -/
theorem Gk.row {a w : World} {n b pb : Nat} {s : St} {l : List Ev.Ev} (h : Gk a w n b pb s l) (s' : St) (hf : s'.fr = s.fr) : Gk a (w.setRow b (stC s' ++ [Value.pointer (some ⟨pb, 0, none⟩)]).toArray) n b pb s' l := by
 obtain ⟨ao, cap, hp⟩ := h.gs.pg
 have hblk : w.heap[b]? = some (.cells _ _ (0, 0)) := h.gs.blk
 have hne : pb ≠ b := by
  intro e
  subst e
  have := hp.block.symm.trans hblk
  simp at this
 have hk : Rg.Keeps (fun k => k = b) w (w.setRow b (stC s' ++ [Value.pointer (some ⟨pb, 0, none⟩)]).toArray) := by
  refine ⟨rfl, rfl, rfl, by simp [World.setRow], fun k _ hn => ?_⟩
  unfold World.setRow
  simp only [Array.getElem?_modify]
  rw [if_neg (by omega)]
 have hfoot : ∀ i, Rg.Foot pb ao i → ¬ i = b := by
  rintro i (rfl | ⟨a, ha, rfl⟩) e
  · exact hne e
  · rcases hp.form with ⟨h1, _⟩ | ⟨g, cur, h1, _, hg, _⟩
    · rw [h1] at ha; cases ha
    · rw [h1] at ha
      cases ha
      simp only at e
      subst e
      have := hg.symm.trans hblk
      simp at this
 have hB : Below n w (w.setRow b (stC s' ++ [Value.pointer (some ⟨pb, 0, none⟩)]).toArray) := below_row (Below.refl _ _) h.gs.ge _
 refine ⟨⟨h.gs.tab.below h.gs.two hB, at_row h.gs.blk _, ⟨ao, cap, by rw [hf]; exact hp.keeps hk hfoot⟩, by rw [hf]; exact h.gs.inv, h.gs.ge, h.gs.two⟩, h.kt.trans ⟨hB, fun i cs T x e1 _ _ => at_row_far x ?_ _⟩⟩
 intro e
 subst e
 have hx : w.heap[i]? = some (.cells cs T (0, 0)) := x
 have := hx.symm.trans hblk
 simp at this
 exact e1 this.2
theorem stC_len (s : St) : (stC s).length = 60 := rfl
theorem stC_one (s : St) : (stC s).all (·.oneCell') = true := rfl
theorem begin_c (w : World) :
 Calls Tryz.prog 59 #[] w fun e w' => e = .returned (.agg (plC fresh0 ++ plC fresh1).toArray) ∧ Below w.heap.size w w' := by
 go_enter Tryz.func59, Tryz.ntmps59
 go_upto_region 1 with fail
 have HN := hid (At.new w #[.int .i32 0, .int .i32 0, .int .i32 0, .int .i32 0, .int .i64 0, .int .i64 0, .int .i64 0, .int .i64 0, .int .i64 0, .int .i64 0, .int .i32 0, .int .i32 0, .int .i32 0, .int .i32 0, .int .i64 0, .int .i64 0, .int .i64 0, .int .i64 0, .int .i64 0, .int .i64 0] 60)
 have HB := hid (Ev.bal (Ev.br w) (.cells #[.int .i32 0, .int .i32 0, .int .i32 0, .int .i32 0, .int .i64 0, .int .i64 0, .int .i64 0, .int .i64 0, .int .i64 0, .int .i64 0, .int .i32 0, .int .i32 0, .int .i32 0, .int .i32 0, .int .i64 0, .int .i64 0, .int .i64 0, .int .i64 0, .int .i64 0, .int .i64 0] 60))
 generalize World.alloc w _ = w0 at HN HB ⊢
 have HS : Hid (At (w0.setRow w.heap.size (plC fresh0 ++ plC fresh1).toArray) w.heap.size (plC fresh0 ++ plC fresh1).toArray 60) := hid (at_row HN.out _)
 have HB2 : Hid (Below w.heap.size w (w0.setRow w.heap.size (plC fresh0 ++ plC fresh1).toArray)) := hid (below_row HB.out (Nat.le_refl _) _)
 go_wp2_with (refine wpList_store_at rfl 60 _ _ rfl w.heap.size 0 (plC fresh0 ++ plC fresh1) rfl rfl 60 _ HN.out (by kernel_rfl) (by decide) rfl ?_)
 refine bodyPost_ret (results_cell_row rfl _ _ w.heap.size 60 (plC fresh0 ++ plC fresh1).toArray (0, 0) _ rfl HS.out Tryz.underlying60 rfl (by kernel_rfl)) rfl ?_
 exact ⟨rfl, HB2.out⟩

end Go.Proofs.YtfclnhmijjlhdaaGreatDoor.Gm
