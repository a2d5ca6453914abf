/- A state on its way in memory, with the page of its frame; package game's tables (layer 12, game). -/
import Derived.Test.YtoogcbniphoaoaaDoorGmMath
import Derived.Test.YtoogcbniphoaoaaDoorShE
import Derived.Test.YtoogcbniphoaoaaDoorDcCalls
import Derived.Deep.Cut
namespace Go.Proofs.YtoogcbniphoaoaaDoor.Gm
open Go.RowKit Go.Proofs.YtoogcbniphoaoaaDoor.Fx Go.Proofs.YtoogcbniphoaoaaDoor.Tg Go.Proofs.YtoogcbniphoaoaaDoor.Dc
open Go.Proofs.YtoogcbniphoaoaaDoor.Ev (Ev Ky addR pageI At ecs Pg Evs)
open Go.Proofs.YtoogcbniphoaoaaDoor.Sh (In32 vec box insideB touchB slI mvP mvV wallI)
open Go.Proofs.YtoogcbniphoaoaaDoor.Rg (Keeps Foot Held)
set_option linter.unusedVariables false

/-- the tables: where players come back, and what events of a kind have in common. -/
def cornC : List Value := [.int .i32 (-2621440), .int .i32 (-2621440), .int .i32 2621440, .int .i32 (-2621440), .int .i32 (-2621440), .int .i32 2621440, .int .i32 2621440, .int .i32 2621440]
def sndE (k : Nat) : Ev := if k = 0 then ⟨⟨0, 0, 0, 0⟩, 0, 0, 0, 0, 0⟩ else ⟨⟨0, 0, 0, 0⟩, k, gainI k, 0, prioI k, longI k⟩
structure Tab (w : World) : Prop where
  corn : ∀ j v, cornC[j]? = some v → w.cell? ⟨0, j, none⟩ = some v
  snd : ∀ k j v, k < 10 → (ecs (sndE k))[j]? = some v → w.cell? ⟨1, k * 9 + j, none⟩ = some v
theorem Tab.lt {w : World} (h : Tab w) : 1 < w.heap.size := World.block_lt_of_cell? w _ (h.snd 0 0 (.int .i64 0) (by decide) rfl)
theorem Tab.below {w w' : World} {n : Nat} (h : Tab w) (hn : 2 ≤ n) (hb : Below n w w') : Tab w' :=
  ⟨fun j v hv => (hb.cell (p := ⟨0, j, none⟩) (show 0 < n by omega)).trans (h.corn j v hv), fun k j v hk hv => (hb.cell (p := ⟨1, k * 9 + j, none⟩) (show 1 < n by omega)).trans (h.snd k j v hk hv)⟩

/-- blocks of types other than these are kept, and all below n. -/
structure Kt (n : Nat) (w w' : World) : Prop where
  old : Below n w w'
  oth : ∀ k cs T, At w k cs T → T ≠ 59 → T ≠ 70 → T ≠ 45 → At w' k cs T
theorem Kt.refl (n : Nat) (w : World) : Kt n w w := ⟨Below.refl _ _, fun _ _ _ h _ _ _ => h⟩
theorem Kt.trans {n : Nat} {a b c : World} (h : Kt n a b) (k : Kt n b c) : Kt n a c :=
  ⟨h.old.trans k.old, fun i cs T x e1 e2 e3 => k.oth i cs T (h.oth i cs T x e1 e2 e3) e1 e2 e3⟩
theorem Kt.ofBelow {n : Nat} {w w' : World} (hn : n ≤ w.heap.size) (h : Below w.heap.size w w') : Kt n w w' :=
  ⟨h.mono hn, fun k cs T x _ _ _ => x.below h⟩
theorem Kt.alloc {n : Nat} {a w : World} (h : Kt n a w) (hn : n ≤ w.heap.size) (o : Obj) : Kt n a (w.alloc o) := h.trans (Kt.ofBelow hn (Ev.bal (Ev.br w) o))
theorem Kt.drew {n : Nat} {a w : World} (h : Kt n a w) (hn : n ≤ w.heap.size) (q : Nat) : Kt n a (w.drewN q) := h.trans (Kt.ofBelow hn (Ev.bdn (Ev.br w) q))

/-- block b is a step on its way: the state s, and a page with the events l. -/
structure Gs (w : World) (n b pb : Nat) (s : St) (l : List Ev) : Prop where
  tab : Tab w
  blk : At w b (stC s ++ [Value.pointer (some ⟨pb, 0, none⟩)]).toArray 59
  pg : ∃ ao cap, Pg w n pb s.fr ao cap l
  inv : pageI s.fr l
  ge : n ≤ b
  two : 2 ≤ n

section
variable {w w' : World} {n b pb : Nat} {s : St} {l : List Ev}
theorem Gs.size (h : Gs w n b pb s l) : n ≤ w.heap.size := Nat.le_of_lt (Nat.lt_of_le_of_lt h.ge h.blk.lt)
theorem Gs.below (h : Gs w n b pb s l) (g : Below w.heap.size w w') : Gs w' n b pb s l := by
  obtain ⟨ao, cap, hp⟩ := h.pg
  exact ⟨h.tab.below (by have := h.tab.lt; omega) g, h.blk.below g, ⟨ao, cap, hp.old g⟩, h.inv, h.ge, h.two⟩
theorem Gs.cell (h : Gs w n b pb s l) (j : Nat) : w.cell? ⟨b, j, none⟩ = (stC s ++ [Value.pointer (some ⟨pb, 0, none⟩)])[j]? := by
  rw [cell_of_row w b j _ _ _ h.blk]; simp
theorem Gs.frozen (h : Gs w n b pb s l) (j : Nat) : w.frozen? ⟨b, j, none⟩ = false := h.blk.frozen j
theorem Gs.hd (h : Gs w n b pb s l) : w.cell? ⟨b, 0, none⟩ = some (.int .i64 s.fr) ∧ w.cell? ⟨b, 1, none⟩ = some (.int .u32 s.di) ∧ w.cell? ⟨b, 2, none⟩ = some (.int .i64 s.rd) ∧ w.cell? ⟨b, 3, none⟩ = some (.int .i64 s.lf) ∧ w.cell? ⟨b, 60, none⟩ = some (.pointer (some ⟨pb, 0, none⟩)) :=
  ⟨h.cell 0, h.cell 1, h.cell 2, h.cell 3, h.cell 60⟩
theorem Gs.p0 (h : Gs w n b pb s l) : w.cell? ⟨b, 4, none⟩ = some (.int .i32 s.p0.ax) ∧ w.cell? ⟨b, 5, none⟩ = some (.int .i32 s.p0.ay) ∧ w.cell? ⟨b, 6, none⟩ = some (.int .i32 s.p0.vx) ∧ w.cell? ⟨b, 7, none⟩ = some (.int .i32 s.p0.vy) ∧ w.cell? ⟨b, 8, none⟩ = some (.int .i64 s.p0.fa) ∧ w.cell? ⟨b, 9, none⟩ = some (.int .i64 s.p0.hp) ∧ w.cell? ⟨b, 10, none⟩ = some (.int .i64 s.p0.co) ∧ w.cell? ⟨b, 11, none⟩ = some (.int .i64 s.p0.wi) ∧ w.cell? ⟨b, 12, none⟩ = some (.int .i64 s.p0.dn) ∧ w.cell? ⟨b, 13, none⟩ = some (.int .i64 s.p0.sc) :=
  ⟨h.cell 4, h.cell 5, h.cell 6, h.cell 7, h.cell 8, h.cell 9, h.cell 10, h.cell 11, h.cell 12, h.cell 13⟩
theorem Gs.p1 (h : Gs w n b pb s l) : w.cell? ⟨b, 14, none⟩ = some (.int .i32 s.p1.ax) ∧ w.cell? ⟨b, 15, none⟩ = some (.int .i32 s.p1.ay) ∧ w.cell? ⟨b, 16, none⟩ = some (.int .i32 s.p1.vx) ∧ w.cell? ⟨b, 17, none⟩ = some (.int .i32 s.p1.vy) ∧ w.cell? ⟨b, 18, none⟩ = some (.int .i64 s.p1.fa) ∧ w.cell? ⟨b, 19, none⟩ = some (.int .i64 s.p1.hp) ∧ w.cell? ⟨b, 20, none⟩ = some (.int .i64 s.p1.co) ∧ w.cell? ⟨b, 21, none⟩ = some (.int .i64 s.p1.wi) ∧ w.cell? ⟨b, 22, none⟩ = some (.int .i64 s.p1.dn) ∧ w.cell? ⟨b, 23, none⟩ = some (.int .i64 s.p1.sc) :=
  ⟨h.cell 14, h.cell 15, h.cell 16, h.cell 17, h.cell 18, h.cell 19, h.cell 20, h.cell 21, h.cell 22, h.cell 23⟩
theorem Gs.lt (h : Gs w n b pb s l) : b < w.heap.size := h.blk.lt
/-- one field is stored. -/
theorem Gs.set (h : Gs w n b pb s l) {j : Nat} {v : Value} {s' : St} (hs : stC s' = (stC s).set j v) (hj : j < 60) (hf : s'.fr = s.fr) : Gs (w.setCell ⟨b, j, none⟩ v) n b pb s' l := by
  obtain ⟨ao, cap, hp⟩ := h.pg
  have hne : pb ≠ b := by
    intro e
    subst e
    have := hp.block.symm.trans h.blk
    simp at this
  have hk : Keeps (fun k => k = b) w (w.setCell ⟨b, j, none⟩ v) := (Keeps.refl (fun k => k = b) w).setCell (p := ⟨b, j, none⟩) (fun _ => rfl) v
  have hfoot : ∀ i, Foot pb ao i → ¬ i = b := by
    rintro i (rfl | ⟨a, ha, rfl⟩) e
    · exact hne e
    · rcases hp.form with ⟨h1, _⟩ | ⟨g, cur, h1, _, hg, _⟩
      · rw [h1] at ha; cases ha
      · rw [h1] at ha
        cases ha
        simp only at e
        subst e
        have := hg.symm.trans h.blk
        simp at this
  refine ⟨?_, ?_, ⟨ao, cap, ?_⟩, by rw [hf]; exact h.inv, h.ge, h.two⟩
  · refine h.tab.below (n := n) h.two ?_
    exact (Below.refl n w).setCell (p := ⟨b, j, none⟩) h.ge v
  · have h2 := heap_setCell_same w b j _ _ v h.blk
    unfold At
    rw [h2]
    congr 2
    apply Array.ext'
    rw [hs]
    simp
    rw [List.set_append_left _ _ (by show j < (stC s).length; exact hj)]
  · rw [hf]
    exact hp.keeps hk hfoot
theorem Gs.b0 (h : Gs w n b pb s l) : w.cell? ⟨b, 24, none⟩ = some (.int .i32 s.s0.ax) ∧ w.cell? ⟨b, 25, none⟩ = some (.int .i32 s.s0.ay) ∧ w.cell? ⟨b, 26, none⟩ = some (.int .i32 s.s0.vx) ∧ w.cell? ⟨b, 27, none⟩ = some (.int .i32 s.s0.vy) ∧ w.cell? ⟨b, 28, none⟩ = some (.int .i64 s.s0.ow) ∧ w.cell? ⟨b, 29, none⟩ = some (.int .i64 s.s0.li) :=
  ⟨h.cell 24, h.cell 25, h.cell 26, h.cell 27, h.cell 28, h.cell 29⟩
theorem Gs.b1 (h : Gs w n b pb s l) : w.cell? ⟨b, 30, none⟩ = some (.int .i32 s.s1.ax) ∧ w.cell? ⟨b, 31, none⟩ = some (.int .i32 s.s1.ay) ∧ w.cell? ⟨b, 32, none⟩ = some (.int .i32 s.s1.vx) ∧ w.cell? ⟨b, 33, none⟩ = some (.int .i32 s.s1.vy) ∧ w.cell? ⟨b, 34, none⟩ = some (.int .i64 s.s1.ow) ∧ w.cell? ⟨b, 35, none⟩ = some (.int .i64 s.s1.li) :=
  ⟨h.cell 30, h.cell 31, h.cell 32, h.cell 33, h.cell 34, h.cell 35⟩
theorem Gs.b2 (h : Gs w n b pb s l) : w.cell? ⟨b, 36, none⟩ = some (.int .i32 s.s2.ax) ∧ w.cell? ⟨b, 37, none⟩ = some (.int .i32 s.s2.ay) ∧ w.cell? ⟨b, 38, none⟩ = some (.int .i32 s.s2.vx) ∧ w.cell? ⟨b, 39, none⟩ = some (.int .i32 s.s2.vy) ∧ w.cell? ⟨b, 40, none⟩ = some (.int .i64 s.s2.ow) ∧ w.cell? ⟨b, 41, none⟩ = some (.int .i64 s.s2.li) :=
  ⟨h.cell 36, h.cell 37, h.cell 38, h.cell 39, h.cell 40, h.cell 41⟩
theorem Gs.b3 (h : Gs w n b pb s l) : w.cell? ⟨b, 42, none⟩ = some (.int .i32 s.s3.ax) ∧ w.cell? ⟨b, 43, none⟩ = some (.int .i32 s.s3.ay) ∧ w.cell? ⟨b, 44, none⟩ = some (.int .i32 s.s3.vx) ∧ w.cell? ⟨b, 45, none⟩ = some (.int .i32 s.s3.vy) ∧ w.cell? ⟨b, 46, none⟩ = some (.int .i64 s.s3.ow) ∧ w.cell? ⟨b, 47, none⟩ = some (.int .i64 s.s3.li) :=
  ⟨h.cell 42, h.cell 43, h.cell 44, h.cell 45, h.cell 46, h.cell 47⟩
theorem Gs.b4 (h : Gs w n b pb s l) : w.cell? ⟨b, 48, none⟩ = some (.int .i32 s.s4.ax) ∧ w.cell? ⟨b, 49, none⟩ = some (.int .i32 s.s4.ay) ∧ w.cell? ⟨b, 50, none⟩ = some (.int .i32 s.s4.vx) ∧ w.cell? ⟨b, 51, none⟩ = some (.int .i32 s.s4.vy) ∧ w.cell? ⟨b, 52, none⟩ = some (.int .i64 s.s4.ow) ∧ w.cell? ⟨b, 53, none⟩ = some (.int .i64 s.s4.li) :=
  ⟨h.cell 48, h.cell 49, h.cell 50, h.cell 51, h.cell 52, h.cell 53⟩
theorem Gs.b5 (h : Gs w n b pb s l) : w.cell? ⟨b, 54, none⟩ = some (.int .i32 s.s5.ax) ∧ w.cell? ⟨b, 55, none⟩ = some (.int .i32 s.s5.ay) ∧ w.cell? ⟨b, 56, none⟩ = some (.int .i32 s.s5.vx) ∧ w.cell? ⟨b, 57, none⟩ = some (.int .i32 s.s5.vy) ∧ w.cell? ⟨b, 58, none⟩ = some (.int .i64 s.s5.ow) ∧ w.cell? ⟨b, 59, none⟩ = some (.int .i64 s.s5.li) :=
  ⟨h.cell 54, h.cell 55, h.cell 56, h.cell 57, h.cell 58, h.cell 59⟩
theorem Kt.setB {a : World} (k : Kt n a w) {cs : Array Value} (h : At w b cs 59) (hn : n ≤ b) (j : Nat) (v : Value) : Kt n a (w.setCell ⟨b, j, none⟩ v) := by
  refine k.trans ⟨(Below.refl n w).setCell (p := ⟨b, j, none⟩) hn v, fun i cs T x e1 _ _ => ?_⟩
  have hib : i ≠ b := by
    intro e
    subst e
    have hx : w.heap[i]? = some (.cells cs T (0, 0)) := x
    have := hx.symm.trans h
    simp at this
    exact e1 this.2
  exact (Below.heap_setCell _ _ _ _ hib).trans x
theorem at_set {cs : Array Value} {T : TypeId} (h : At w b cs T) (j : Nat) (v : Value) : At (w.setCell ⟨b, j, none⟩ v) b (cs.setIfInBounds j v) T := heap_setCell_same w b j _ _ v h
end

/-- and what is kept since the world a. -/
structure Gk (a w : World) (n b pb : Nat) (s : St) (l : List Ev) : Prop where
  gs : Gs w n b pb s l
  kt : Kt n a w
section
variable {a w w' : World} {n b pb : Nat} {s : St} {l : List Ev}
theorem Gs.gk (h : Gs w n b pb s l) : Gk w w n b pb s l := ⟨h, Kt.refl _ _⟩
theorem Gk.below (h : Gk a w n b pb s l) (g : Below w.heap.size w w') : Gk a w' n b pb s l := ⟨h.gs.below g, h.kt.trans (Kt.ofBelow h.gs.size g)⟩
theorem Gk.step {s' : St} {l' : List Ev} (h : Gk a w n b pb s l) (g : Gk w w' n b pb s' l') : Gk a w' n b pb s' l' := ⟨g.gs, h.kt.trans g.kt⟩
theorem Gk.set (h : Gk a w n b pb s l) {j : Nat} {v : Value} {s' : St} (hs : stC s' = (stC s).set j v) (hj : j < 60) (hf : s'.fr = s.fr) : Gk a (w.setCell ⟨b, j, none⟩ v) n b pb s' l := ⟨h.gs.set hs hj hf, h.kt.setB h.gs.blk h.gs.ge _ _⟩
theorem Gk.at {cs : Array Value} {T : TypeId} {c : Nat} (h : Gk a w n b pb s l) (x : At a c cs T) (h1 : T ≠ 59) (h2 : T ≠ 70) (h3 : T ≠ 45) : At w c cs T := h.kt.oth c cs T x h1 h2 h3
theorem Gk.put0 (h : Gk a w n b pb s l) (p : Pl) : Gk a ((((((((((w.setCell ⟨b, 4, none⟩ (.int .i32 p.ax)).setCell ⟨b, 5, none⟩ (.int .i32 p.ay)).setCell ⟨b, 6, none⟩ (.int .i32 p.vx)).setCell ⟨b, 7, none⟩ (.int .i32 p.vy)).setCell ⟨b, 8, none⟩ (.int .i64 p.fa)).setCell ⟨b, 9, none⟩ (.int .i64 p.hp)).setCell ⟨b, 10, none⟩ (.int .i64 p.co)).setCell ⟨b, 11, none⟩ (.int .i64 p.wi)).setCell ⟨b, 12, none⟩ (.int .i64 p.dn)).setCell ⟨b, 13, none⟩ (.int .i64 p.sc)) n b pb { s with p0 := p } l :=
  (((((((((h.set (s' := { s with p0 := { s.p0 with ax := p.ax } }) rfl (by decide) rfl).set (s' := { s with p0 := { s.p0 with ax := p.ax, ay := p.ay } }) rfl (by decide) rfl).set (s' := { s with p0 := { s.p0 with ax := p.ax, ay := p.ay, vx := p.vx } }) rfl (by decide) rfl).set (s' := { s with p0 := { s.p0 with ax := p.ax, ay := p.ay, vx := p.vx, vy := p.vy } }) rfl (by decide) rfl).set (s' := { s with p0 := { s.p0 with ax := p.ax, ay := p.ay, vx := p.vx, vy := p.vy, fa := p.fa } }) rfl (by decide) rfl).set (s' := { s with p0 := { s.p0 with ax := p.ax, ay := p.ay, vx := p.vx, vy := p.vy, fa := p.fa, hp := p.hp } }) rfl (by decide) rfl).set (s' := { s with p0 := { s.p0 with ax := p.ax, ay := p.ay, vx := p.vx, vy := p.vy, fa := p.fa, hp := p.hp, co := p.co } }) rfl (by decide) rfl).set (s' := { s with p0 := { s.p0 with ax := p.ax, ay := p.ay, vx := p.vx, vy := p.vy, fa := p.fa, hp := p.hp, co := p.co, wi := p.wi } }) rfl (by decide) rfl).set (s' := { s with p0 := { s.p0 with ax := p.ax, ay := p.ay, vx := p.vx, vy := p.vy, fa := p.fa, hp := p.hp, co := p.co, wi := p.wi, dn := p.dn } }) rfl (by decide) rfl).set (s' := { s with p0 := { s.p0 with ax := p.ax, ay := p.ay, vx := p.vx, vy := p.vy, fa := p.fa, hp := p.hp, co := p.co, wi := p.wi, dn := p.dn, sc := p.sc } }) rfl (by decide) rfl
theorem Gk.put1 (h : Gk a w n b pb s l) (p : Pl) : Gk a ((((((((((w.setCell ⟨b, 14, none⟩ (.int .i32 p.ax)).setCell ⟨b, 15, none⟩ (.int .i32 p.ay)).setCell ⟨b, 16, none⟩ (.int .i32 p.vx)).setCell ⟨b, 17, none⟩ (.int .i32 p.vy)).setCell ⟨b, 18, none⟩ (.int .i64 p.fa)).setCell ⟨b, 19, none⟩ (.int .i64 p.hp)).setCell ⟨b, 20, none⟩ (.int .i64 p.co)).setCell ⟨b, 21, none⟩ (.int .i64 p.wi)).setCell ⟨b, 22, none⟩ (.int .i64 p.dn)).setCell ⟨b, 23, none⟩ (.int .i64 p.sc)) n b pb { s with p1 := p } l :=
  (((((((((h.set (s' := { s with p1 := { s.p1 with ax := p.ax } }) rfl (by decide) rfl).set (s' := { s with p1 := { s.p1 with ax := p.ax, ay := p.ay } }) rfl (by decide) rfl).set (s' := { s with p1 := { s.p1 with ax := p.ax, ay := p.ay, vx := p.vx } }) rfl (by decide) rfl).set (s' := { s with p1 := { s.p1 with ax := p.ax, ay := p.ay, vx := p.vx, vy := p.vy } }) rfl (by decide) rfl).set (s' := { s with p1 := { s.p1 with ax := p.ax, ay := p.ay, vx := p.vx, vy := p.vy, fa := p.fa } }) rfl (by decide) rfl).set (s' := { s with p1 := { s.p1 with ax := p.ax, ay := p.ay, vx := p.vx, vy := p.vy, fa := p.fa, hp := p.hp } }) rfl (by decide) rfl).set (s' := { s with p1 := { s.p1 with ax := p.ax, ay := p.ay, vx := p.vx, vy := p.vy, fa := p.fa, hp := p.hp, co := p.co } }) rfl (by decide) rfl).set (s' := { s with p1 := { s.p1 with ax := p.ax, ay := p.ay, vx := p.vx, vy := p.vy, fa := p.fa, hp := p.hp, co := p.co, wi := p.wi } }) rfl (by decide) rfl).set (s' := { s with p1 := { s.p1 with ax := p.ax, ay := p.ay, vx := p.vx, vy := p.vy, fa := p.fa, hp := p.hp, co := p.co, wi := p.wi, dn := p.dn } }) rfl (by decide) rfl).set (s' := { s with p1 := { s.p1 with ax := p.ax, ay := p.ay, vx := p.vx, vy := p.vy, fa := p.fa, hp := p.hp, co := p.co, wi := p.wi, dn := p.dn, sc := p.sc } }) rfl (by decide) rfl
theorem Gk.shot0 (h : Gk a w n b pb s l) (x : Bu) : Gk a ((((((w.setCell ⟨b, 24, none⟩ (.int .i32 x.ax)).setCell ⟨b, 25, none⟩ (.int .i32 x.ay)).setCell ⟨b, 26, none⟩ (.int .i32 x.vx)).setCell ⟨b, 27, none⟩ (.int .i32 x.vy)).setCell ⟨b, 28, none⟩ (.int .i64 x.ow)).setCell ⟨b, 29, none⟩ (.int .i64 x.li)) n b pb { s with s0 := x } l :=
  (((((h.set (s' := { s with s0 := { s.s0 with ax := x.ax } }) rfl (by decide) rfl).set (s' := { s with s0 := { s.s0 with ax := x.ax, ay := x.ay } }) rfl (by decide) rfl).set (s' := { s with s0 := { s.s0 with ax := x.ax, ay := x.ay, vx := x.vx } }) rfl (by decide) rfl).set (s' := { s with s0 := { s.s0 with ax := x.ax, ay := x.ay, vx := x.vx, vy := x.vy } }) rfl (by decide) rfl).set (s' := { s with s0 := { s.s0 with ax := x.ax, ay := x.ay, vx := x.vx, vy := x.vy, ow := x.ow } }) rfl (by decide) rfl).set (s' := { s with s0 := { s.s0 with ax := x.ax, ay := x.ay, vx := x.vx, vy := x.vy, ow := x.ow, li := x.li } }) rfl (by decide) rfl
theorem Gk.shot1 (h : Gk a w n b pb s l) (x : Bu) : Gk a ((((((w.setCell ⟨b, 30, none⟩ (.int .i32 x.ax)).setCell ⟨b, 31, none⟩ (.int .i32 x.ay)).setCell ⟨b, 32, none⟩ (.int .i32 x.vx)).setCell ⟨b, 33, none⟩ (.int .i32 x.vy)).setCell ⟨b, 34, none⟩ (.int .i64 x.ow)).setCell ⟨b, 35, none⟩ (.int .i64 x.li)) n b pb { s with s1 := x } l :=
  (((((h.set (s' := { s with s1 := { s.s1 with ax := x.ax } }) rfl (by decide) rfl).set (s' := { s with s1 := { s.s1 with ax := x.ax, ay := x.ay } }) rfl (by decide) rfl).set (s' := { s with s1 := { s.s1 with ax := x.ax, ay := x.ay, vx := x.vx } }) rfl (by decide) rfl).set (s' := { s with s1 := { s.s1 with ax := x.ax, ay := x.ay, vx := x.vx, vy := x.vy } }) rfl (by decide) rfl).set (s' := { s with s1 := { s.s1 with ax := x.ax, ay := x.ay, vx := x.vx, vy := x.vy, ow := x.ow } }) rfl (by decide) rfl).set (s' := { s with s1 := { s.s1 with ax := x.ax, ay := x.ay, vx := x.vx, vy := x.vy, ow := x.ow, li := x.li } }) rfl (by decide) rfl
theorem Gk.shot2 (h : Gk a w n b pb s l) (x : Bu) : Gk a ((((((w.setCell ⟨b, 36, none⟩ (.int .i32 x.ax)).setCell ⟨b, 37, none⟩ (.int .i32 x.ay)).setCell ⟨b, 38, none⟩ (.int .i32 x.vx)).setCell ⟨b, 39, none⟩ (.int .i32 x.vy)).setCell ⟨b, 40, none⟩ (.int .i64 x.ow)).setCell ⟨b, 41, none⟩ (.int .i64 x.li)) n b pb { s with s2 := x } l :=
  (((((h.set (s' := { s with s2 := { s.s2 with ax := x.ax } }) rfl (by decide) rfl).set (s' := { s with s2 := { s.s2 with ax := x.ax, ay := x.ay } }) rfl (by decide) rfl).set (s' := { s with s2 := { s.s2 with ax := x.ax, ay := x.ay, vx := x.vx } }) rfl (by decide) rfl).set (s' := { s with s2 := { s.s2 with ax := x.ax, ay := x.ay, vx := x.vx, vy := x.vy } }) rfl (by decide) rfl).set (s' := { s with s2 := { s.s2 with ax := x.ax, ay := x.ay, vx := x.vx, vy := x.vy, ow := x.ow } }) rfl (by decide) rfl).set (s' := { s with s2 := { s.s2 with ax := x.ax, ay := x.ay, vx := x.vx, vy := x.vy, ow := x.ow, li := x.li } }) rfl (by decide) rfl
theorem Gk.shot3 (h : Gk a w n b pb s l) (x : Bu) : Gk a ((((((w.setCell ⟨b, 42, none⟩ (.int .i32 x.ax)).setCell ⟨b, 43, none⟩ (.int .i32 x.ay)).setCell ⟨b, 44, none⟩ (.int .i32 x.vx)).setCell ⟨b, 45, none⟩ (.int .i32 x.vy)).setCell ⟨b, 46, none⟩ (.int .i64 x.ow)).setCell ⟨b, 47, none⟩ (.int .i64 x.li)) n b pb { s with s3 := x } l :=
  (((((h.set (s' := { s with s3 := { s.s3 with ax := x.ax } }) rfl (by decide) rfl).set (s' := { s with s3 := { s.s3 with ax := x.ax, ay := x.ay } }) rfl (by decide) rfl).set (s' := { s with s3 := { s.s3 with ax := x.ax, ay := x.ay, vx := x.vx } }) rfl (by decide) rfl).set (s' := { s with s3 := { s.s3 with ax := x.ax, ay := x.ay, vx := x.vx, vy := x.vy } }) rfl (by decide) rfl).set (s' := { s with s3 := { s.s3 with ax := x.ax, ay := x.ay, vx := x.vx, vy := x.vy, ow := x.ow } }) rfl (by decide) rfl).set (s' := { s with s3 := { s.s3 with ax := x.ax, ay := x.ay, vx := x.vx, vy := x.vy, ow := x.ow, li := x.li } }) rfl (by decide) rfl
theorem Gk.shot4 (h : Gk a w n b pb s l) (x : Bu) : Gk a ((((((w.setCell ⟨b, 48, none⟩ (.int .i32 x.ax)).setCell ⟨b, 49, none⟩ (.int .i32 x.ay)).setCell ⟨b, 50, none⟩ (.int .i32 x.vx)).setCell ⟨b, 51, none⟩ (.int .i32 x.vy)).setCell ⟨b, 52, none⟩ (.int .i64 x.ow)).setCell ⟨b, 53, none⟩ (.int .i64 x.li)) n b pb { s with s4 := x } l :=
  (((((h.set (s' := { s with s4 := { s.s4 with ax := x.ax } }) rfl (by decide) rfl).set (s' := { s with s4 := { s.s4 with ax := x.ax, ay := x.ay } }) rfl (by decide) rfl).set (s' := { s with s4 := { s.s4 with ax := x.ax, ay := x.ay, vx := x.vx } }) rfl (by decide) rfl).set (s' := { s with s4 := { s.s4 with ax := x.ax, ay := x.ay, vx := x.vx, vy := x.vy } }) rfl (by decide) rfl).set (s' := { s with s4 := { s.s4 with ax := x.ax, ay := x.ay, vx := x.vx, vy := x.vy, ow := x.ow } }) rfl (by decide) rfl).set (s' := { s with s4 := { s.s4 with ax := x.ax, ay := x.ay, vx := x.vx, vy := x.vy, ow := x.ow, li := x.li } }) rfl (by decide) rfl
theorem Gk.shot5 (h : Gk a w n b pb s l) (x : Bu) : Gk a ((((((w.setCell ⟨b, 54, none⟩ (.int .i32 x.ax)).setCell ⟨b, 55, none⟩ (.int .i32 x.ay)).setCell ⟨b, 56, none⟩ (.int .i32 x.vx)).setCell ⟨b, 57, none⟩ (.int .i32 x.vy)).setCell ⟨b, 58, none⟩ (.int .i64 x.ow)).setCell ⟨b, 59, none⟩ (.int .i64 x.li)) n b pb { s with s5 := x } l :=
  (((((h.set (s' := { s with s5 := { s.s5 with ax := x.ax } }) rfl (by decide) rfl).set (s' := { s with s5 := { s.s5 with ax := x.ax, ay := x.ay } }) rfl (by decide) rfl).set (s' := { s with s5 := { s.s5 with ax := x.ax, ay := x.ay, vx := x.vx } }) rfl (by decide) rfl).set (s' := { s with s5 := { s.s5 with ax := x.ax, ay := x.ay, vx := x.vx, vy := x.vy } }) rfl (by decide) rfl).set (s' := { s with s5 := { s.s5 with ax := x.ax, ay := x.ay, vx := x.vx, vy := x.vy, ow := x.ow } }) rfl (by decide) rfl).set (s' := { s with s5 := { s.s5 with ax := x.ax, ay := x.ay, vx := x.vx, vy := x.vy, ow := x.ow, li := x.li } }) rfl (by decide) rfl
end

end Go.Proofs.YtoogcbniphoaoaaDoor.Gm
