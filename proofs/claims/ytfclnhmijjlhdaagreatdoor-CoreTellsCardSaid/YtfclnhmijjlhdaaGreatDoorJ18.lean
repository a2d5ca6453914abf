/- A feed in memory: a struct that holds a ring of what is known and a window of what was used; what its parts' calls make of it. Facts on memory, no walks. -/
/- What the calls of layer 14 (feed) that only read return: First, Next, Known, ahead; of a feed that is not there too. -/
import Derived.Test.YtfclnhmijjlhdaaGreatDoorJ17
import Derived.Test.YtfclnhmijjlhdaaGreatDoorJ15
import Derived.Test.YtfclnhmijjlhdaaGreatDoorJ16
import Derived.Test.YtfclnhmijjlhdaaGreatDoorRows
import Derived.WalkKit
import Derived.LoopTactic
import Derived.Deep.QuietTactic
import Derived.BigQuiet
import Derived.Deep.RegionLaw
import Derived.Deep.RegionHeld3
import Derived.Deep.LoopGhost
namespace Go.Proofs.YtfclnhmijjlhdaaGreatDoor.Fd
open Go.RowKit Go.Proofs.YtfclnhmijjlhdaaGreatDoor.Rg
set_option linter.unusedVariables false
set_option maxRecDepth 100000

/-- what stands for a frame in a window's list. -/
def look (l : List (Int × Int)) (f : Int) : Option Int := if Ru.hasF l f = true then some (Ru.thingI l f) else none
theorem look_mem {l : List (Int × Int)} (hr : Ru.Rising l) {f x : Int} : look l f = some x ↔ (f, x) ∈ l := by
 unfold look
 constructor
 · intro h
   split at h
   · rename_i hh
     cases hx : l[Ru.lo l f]? with
     | none => rw [Ru.hasF_none hx] at hh; cases hh
     | some p =>
      rw [Ru.hasF_some hx] at hh
      have e : p.1 = f := by simpa using hh
      have e2 : Ru.thingI l f = p.2 := by simp [Ru.thingI, hx, e]
      rw [e2] at h
      have e3 : p.2 = x := by simpa using h
      have : p = (f, x) := by cases p; simp at e e3; simp [e, e3]
      rw [← this]
      exact List.mem_of_getElem? hx
   · cases h
 · intro h
   obtain ⟨j, hj⟩ := List.mem_iff_getElem?.1 h
   have h1 := Ru.lo_lt (f := f) hr j _ hj
   have h2 : ¬ j < Ru.lo l f := fun e => by have := h1.1 e; simp at this
   have hl := (List.getElem?_eq_some_iff.1 hj).1
   have h3 : j = Ru.lo l f := by
    rcases Nat.lt_or_ge (Ru.lo l f) j with h4 | h4
    · have hq : l[Ru.lo l f]? = some (l[Ru.lo l f]'(by omega)) := List.getElem?_eq_getElem _
      have h5 := Ru.lo_lt (f := f) hr _ _ hq
      have h6 : (l[Ru.lo l f]'(by omega)).1 < f := by
       have := List.pairwise_iff_getElem.1 hr (Ru.lo l f) j (by omega) hl h4
       rw [(List.getElem?_eq_some_iff.1 hj).2] at this
       exact this
      have := h5.2 h6
      omega
    · omega
   rw [h3] at hj
   have e1 : Ru.hasF l f = true := by rw [Ru.hasF_some hj]; simp
   have e2 : Ru.thingI l f = x := by simp [Ru.thingI, hj]
   rw [if_pos e1, e2]
theorem look_put {l : List (Int × Int)} (hr : Ru.Rising l) {f x : Int} (hr' : Ru.Rising (Ru.putL l f x)) (g : Int) : look (Ru.putL l f x) g = if g = f then some x else look l g := by
 apply Option.ext
 intro y
 rw [look_mem hr']
 have hm : (g, y) ∈ Ru.putL l f x ↔ (g = f ∧ y = x) ∨ (g ≠ f ∧ (g, y) ∈ l) := by
  unfold Ru.putL
  constructor
  · intro h
    rcases List.mem_append.1 h with h | h
    · have h1 := h
      rw [Ru.take_lo hr] at h1
      have h2 := (List.mem_filter.1 h1).2
      exact .inr ⟨by simp at h2; omega, List.mem_of_mem_take h⟩
    · rcases List.mem_cons.1 h with h | h
      · exact .inl (by simpa using h)
      · have := Ru.put_behind (f := f) hr _ h
        exact .inr ⟨by simp at this; omega, List.mem_of_mem_drop h⟩
  · rintro (⟨rfl, rfl⟩ | ⟨h1, h2⟩)
    · exact List.mem_append.2 (.inr (List.mem_cons.2 (.inl rfl)))
    · by_cases h3 : g < f
      · refine List.mem_append.2 (.inl ?_)
        rw [Ru.take_lo hr]
        exact List.mem_filter.2 ⟨h2, by simpa using h3⟩
      · refine List.mem_append.2 (.inr (List.mem_cons.2 (.inr ?_)))
        obtain ⟨j, hj⟩ := List.mem_iff_getElem?.1 h2
        have h4 := Ru.lo_lt (f := f) hr j _ hj
        have h5 : ¬ j < Ru.lo l f := fun e => h3 (h4.1 e)
        have h6 : Ru.lo l f + Ru.own1 l f ≤ j := by
         unfold Ru.own1
         split
         · rename_i hh
           have : j ≠ Ru.lo l f := by
            rintro rfl
            rw [Ru.hasF_some hj] at hh
            exact h1 (by simpa using hh)
           omega
         · omega
        refine List.mem_iff_getElem?.2 ⟨j - (Ru.lo l f + Ru.own1 l f), ?_⟩
        rw [List.getElem?_drop, show Ru.lo l f + Ru.own1 l f + (j - (Ru.lo l f + Ru.own1 l f)) = j by omega]
        exact hj
 rw [hm]
 by_cases e : g = f
 · rw [if_pos e]
   simp [e]
   exact ⟨fun h => h.symm, fun h => h.symm⟩
 · rw [if_neg e, look_mem hr]
   simp [e]
theorem look_drop {l : List (Int × Int)} (hr : Ru.Rising l) {i g : Int} (hg : i ≤ g) : look (l.drop (Ru.lo l i)) g = look l g := by
 have hr' : Ru.Rising (l.drop (Ru.lo l i)) := List.Pairwise.sublist (List.drop_sublist _ _) hr
 apply Option.ext
 intro y
 rw [look_mem hr', look_mem hr, Ru.drop_lo hr, List.mem_filter]
 simp [hg]
theorem look_nil (g : Int) : look [] g = none := rfl

/-- where its window begins. -/
def wF (m : Fd) : Int := if (m.first : Int) ≤ 1073741824 then (m.first : Int) else 1073741824
theorem wF_ge (m : Fd) : 0 ≤ wF m ∧ wF m ≤ 1073741824 ∧ wF m ≤ (m.first : Int) := by unfold wF; split <;> omega
/-- the known ones that are kept. -/
def kept (m : Fd) : List Int := m.L.drop m.first

/-- a feed's parts: the struct in block b, its ring (block br, list ao), its window (block bw, list aw). -/
structure Parts (w : World) (n₀ b br bw : Nat) (ao : Option Addr) (cap : Nat) (aw : Option Addr) (capw : Nat) (fi : Int) (rl : List Int) (g : Int) (wf : Int) (l : List (Int × Int)) : Prop where
 block : w.heap[b]? = some (.cells #[.int .i64 fi, .pointer (some ⟨br, 0, none⟩), .int .u8 g, .pointer (some ⟨bw, 0, none⟩)] 141 (0, 0))
 ge : n₀ ≤ b
 ring : Ru.Ring w n₀ 174 br 64 ao cap rl
 win : Ru.Win w n₀ 177 189 bw 64 wf aw capw l

/-- the blocks that a feed's calls may write. -/
def FFoot (b br bw : Nat) (ao aw : Option Addr) (i : Nat) : Prop := i = b ∨ Foot br ao i ∨ Foot bw aw i

section
variable {w w' : World} {n₀ b br bw : Nat} {ao : Option Addr} {cap : Nat} {aw : Option Addr} {capw : Nat} {fi : Int} {rl : List Int} {g wf : Int} {l : List (Int × Int)}

theorem Parts.lt (h : Parts w n₀ b br bw ao cap aw capw fi rl g wf l) : b < w.heap.size := (Array.getElem?_eq_some_iff.1 h.block).1
theorem Parts.cells (h : Parts w n₀ b br bw ao cap aw capw fi rl g wf l) : w.cell? ⟨b, 0, none⟩ = some (.int .i64 fi) ∧ w.cell? ⟨b, 1, none⟩ = some (.pointer (some ⟨br, 0, none⟩)) ∧ w.cell? ⟨b, 2, none⟩ = some (.int .u8 g) ∧ w.cell? ⟨b, 3, none⟩ = some (.pointer (some ⟨bw, 0, none⟩)) := by
 refine ⟨?_, ?_, ?_, ?_⟩
 · rw [cell_of_row w b 0 _ _ _ h.block]; rfl
 · rw [cell_of_row w b 1 _ _ _ h.block]; rfl
 · rw [cell_of_row w b 2 _ _ _ h.block]; rfl
 · rw [cell_of_row w b 3 _ _ _ h.block]; rfl
theorem Parts.frozen (h : Parts w n₀ b br bw ao cap aw capw fi rl g wf l) (j : Nat) : w.frozen? ⟨b, j, none⟩ = false := frozen_of_row w b j _ _ h.block
/-- of what types its blocks are. -/
theorem Parts.kindR (h : Parts w n₀ b br bw ao cap aw capw fi rl g wf l) {i : Nat} (hi : Foot br ao i) : ∃ cs, w.heap[i]? = some (.cells cs 174 (0, 0)) ∨ w.heap[i]? = some (.cells cs 5 (0, 0)) := by
 rcases hi with rfl | ⟨a, ha, rfl⟩
 · exact ⟨_, .inl h.ring.block⟩
 · rcases h.ring.form with ⟨h4, _⟩ | ⟨g, cur, h4, _, hg, _⟩
   · rw [h4] at ha; cases ha
   · rw [h4] at ha; cases ha
     exact ⟨cur, .inr hg⟩
theorem Parts.kindW (h : Parts w n₀ b br bw ao cap aw capw fi rl g wf l) {i : Nat} (hi : Foot bw aw i) : ∃ cs, w.heap[i]? = some (.cells cs 177 (0, 0)) ∨ w.heap[i]? = some (.cells cs 189 (0, 0)) := by
 rcases hi with rfl | ⟨a, ha, rfl⟩
 · exact ⟨_, .inl h.win.block⟩
 · rcases h.win.form with ⟨h4, _⟩ | ⟨g, cur, h4, _, hg, _⟩
   · rw [h4] at ha; cases ha
   · rw [h4] at ha; cases ha
     exact ⟨cur, .inr hg⟩
theorem Parts.kind (h : Parts w n₀ b br bw ao cap aw capw fi rl g wf l) {i : Nat} (hi : FFoot b br bw ao aw i) : ∃ cs t, w.heap[i]? = some (.cells cs t (0, 0)) ∧ (t = 141 ∨ t = 174 ∨ t = 5 ∨ t = 177 ∨ t = 189) := by
 rcases hi with rfl | hi | hi
 · exact ⟨_, _, h.block, .inl rfl⟩
 · obtain ⟨cs, h1 | h1⟩ := h.kindR hi
   · exact ⟨_, _, h1, .inr (.inl rfl)⟩
   · exact ⟨_, _, h1, .inr (.inr (.inl rfl))⟩
 · obtain ⟨cs, h1 | h1⟩ := h.kindW hi
   · exact ⟨_, _, h1, .inr (.inr (.inr (.inl rfl)))⟩
   · exact ⟨_, _, h1, .inr (.inr (.inr (.inr rfl)))⟩
theorem Parts.bR (h : Parts w n₀ b br bw ao cap aw capw fi rl g wf l) : ¬ Foot br ao b := by
 intro hi
 obtain ⟨cs, h1 | h1⟩ := h.kindR hi
 · have := h.block.symm.trans h1; simp at this
 · have := h.block.symm.trans h1; simp at this
theorem Parts.bW (h : Parts w n₀ b br bw ao cap aw capw fi rl g wf l) : ¬ Foot bw aw b := by
 intro hi
 obtain ⟨cs, h1 | h1⟩ := h.kindW hi
 · have := h.block.symm.trans h1; simp at this
 · have := h.block.symm.trans h1; simp at this
theorem Parts.rW (h : Parts w n₀ b br bw ao cap aw capw fi rl g wf l) : ∀ i, Foot br ao i → ¬ Foot bw aw i := by
 intro i hi hj
 obtain ⟨cs, h1 | h1⟩ := h.kindR hi <;> obtain ⟨ds, h2 | h2⟩ := h.kindW hj
 all_goals
  have := h1.symm.trans h2
  simp at this
theorem Parts.footGe (h : Parts w n₀ b br bw ao cap aw capw fi rl g wf l) : ∀ i, FFoot b br bw ao aw i → n₀ ≤ i := by
 rintro i (rfl | hi | hi)
 · exact h.ge
 · exact h.ring.footGe i hi
 · exact h.win.footGe i hi
theorem Parts.footLt (h : Parts w n₀ b br bw ao cap aw capw fi rl g wf l) : ∀ i, FFoot b br bw ao aw i → i < w.heap.size := by
 rintro i (rfl | hi | hi)
 · exact h.lt
 · exact h.ring.footLt i hi
 · exact h.win.footLt i hi
theorem Parts.keeps {S : Nat → Prop} (h : Parts w n₀ b br bw ao cap aw capw fi rl g wf l) (k : Keeps S w w') (hs : ∀ i, FFoot b br bw ao aw i → ¬ S i) : Parts w' n₀ b br bw ao cap aw capw fi rl g wf l :=
 ⟨(k.block b h.lt (hs b (.inl rfl))).trans h.block, h.ge, h.ring.keeps k (fun i hi => hs i (.inr (.inl hi))), h.win.keeps k (fun i hi => hs i (.inr (.inr hi)))⟩
theorem Parts.old (h : Parts w n₀ b br bw ao cap aw capw fi rl g wf l) (k : Below w.heap.size w w') : Parts w' n₀ b br bw ao cap aw capw fi rl g wf l := h.keeps (Keeps.ofOld k (fun _ => False)) (fun _ _ e => e)
theorem Parts.drewN (h : Parts w n₀ b br bw ao cap aw capw fi rl g wf l) (q : Nat) : Parts (w.drewN q) n₀ b br bw ao cap aw capw fi rl g wf l := h.old ⟨rfl, rfl, rfl, Nat.le_refl _, fun _ _ => rfl⟩

/-- its ring was changed. -/
theorem Parts.setR (h : Parts w n₀ b br bw ao cap aw capw fi rl g wf l) {ao' : Option Addr} {cap' : Nat} {rl' : List Int} (hr : Ru.Ring w' n₀ 174 br 64 ao' cap' rl') (hk : Keeps (Foot br ao) w w') :
 Parts w' n₀ b br bw ao' cap' aw capw fi rl' g wf l ∧ Keeps (FFoot b br bw ao aw) w w' :=
 ⟨⟨(hk.block b h.lt h.bR).trans h.block, h.ge, hr, h.win.keeps hk (fun i hi hf => h.rW i hf hi)⟩, hk.mono (fun i _ hi => .inr (.inl hi))⟩
/-- its window was changed. -/
theorem Parts.setW (h : Parts w n₀ b br bw ao cap aw capw fi rl g wf l) {aw' : Option Addr} {capw' : Nat} {wf' : Int} {l' : List (Int × Int)} (hr : Ru.Win w' n₀ 177 189 bw 64 wf' aw' capw' l') (hk : Keeps (Foot bw aw) w w') :
 Parts w' n₀ b br bw ao cap aw' capw' fi rl g wf' l' ∧ Keeps (FFoot b br bw ao aw) w w' :=
 ⟨⟨(hk.block b h.lt h.bW).trans h.block, h.ge, h.ring.keeps hk (fun i hi hf => h.rW i hi hf), hr⟩, hk.mono (fun i _ hi => .inr (.inr hi))⟩
/-- a field of the struct was stored. -/
theorem Parts.keepsB (h : Parts w n₀ b br bw ao cap aw capw fi rl g wf l) (j : Nat) (u : Value) : Keeps (FFoot b br bw ao aw) w (w.setCell ⟨b, j, none⟩ u) ∧ Ru.Ring (w.setCell ⟨b, j, none⟩ u) n₀ 174 br 64 ao cap rl ∧ Ru.Win (w.setCell ⟨b, j, none⟩ u) n₀ 177 189 bw 64 wf aw capw l := by
 have hk : Keeps (fun i => i = b) w (w.setCell ⟨b, j, none⟩ u) := (Keeps.refl (fun i => i = b) w).setCell (p := ⟨b, j, none⟩) (fun _ => rfl) _
 exact ⟨hk.mono (fun i _ e => .inl e), h.ring.keeps hk (fun i hi e => h.bR (e ▸ hi)), h.win.keeps hk (fun i hi e => h.bW (e ▸ hi))⟩
theorem Parts.setG (h : Parts w n₀ b br bw ao cap aw capw fi rl g wf l) (x : Int) : Parts (w.setCell ⟨b, 2, none⟩ (.int .u8 x)) n₀ b br bw ao cap aw capw fi rl x wf l ∧ Keeps (FFoot b br bw ao aw) w (w.setCell ⟨b, 2, none⟩ (.int .u8 x)) := by
 obtain ⟨h1, h2, h3⟩ := h.keepsB 2 (.int .u8 x)
 exact ⟨⟨heap_setCell_same w b 2 _ _ (.int .u8 x) h.block, h.ge, h2, h3⟩, h1⟩
theorem Parts.setF (h : Parts w n₀ b br bw ao cap aw capw fi rl g wf l) (x : Int) : Parts (w.setCell ⟨b, 0, none⟩ (.int .i64 x)) n₀ b br bw ao cap aw capw x rl g wf l ∧ Keeps (FFoot b br bw ao aw) w (w.setCell ⟨b, 0, none⟩ (.int .i64 x)) := by
 obtain ⟨h1, h2, h3⟩ := h.keepsB 0 (.int .i64 x)
 exact ⟨⟨heap_setCell_same w b 0 _ _ (.int .i64 x) h.block, h.ge, h2, h3⟩, h1⟩
end

/-- its lists lie where they lay, or in new blocks: so do all its blocks. -/
theorem foot_near {b br bw N : Nat} {ao aw ao' aw' : Option Addr} (hr : Near ao ao' N) (hw : Near aw aw' N) {i : Nat} (hi : FFoot b br bw ao' aw' i) : FFoot b br bw ao aw i ∨ N ≤ i := by
 rcases hi with rfl | (rfl | ⟨a, ha, rfl⟩) | (rfl | ⟨a, ha, rfl⟩)
 · exact .inl (.inl rfl)
 · exact .inl (.inr (.inl (.inl rfl)))
 · rcases hr a ha with ⟨c, hc, e⟩ | h1
   · exact .inl (.inr (.inl (.inr ⟨c, hc, e.symm⟩)))
   · exact .inr h1
 · exact .inl (.inr (.inr (.inl rfl)))
 · rcases hw a ha with ⟨c, hc, e⟩ | h1
   · exact .inl (.inr (.inr (.inr ⟨c, hc, e.symm⟩)))
   · exact .inr h1

/-- the feed m, in block b; its calls write the blocks of F alone. -/
def Fed (w : World) (n₀ b : Nat) (F : Nat → Prop) (m : Fd) : Prop :=
 ∃ br bw ao cap aw capw l, Parts w n₀ b br bw ao cap aw capw m.first (kept m) (gs m) (wF m) l ∧ Ru.Good 64 (wF m) l ∧ (∀ k : Nat, m.first ≤ k → m.us k = look l k) ∧ Ok m ∧ F = FFoot b br bw ao aw

section
variable {w w' : World} {n₀ b : Nat} {F : Nat → Prop} {m m' : Fd}
theorem Fed.ok (h : Fed w n₀ b F m) : Ok m := by obtain ⟨_, _, _, _, _, _, _, _, _, _, h1, _⟩ := h; exact h1
theorem Fed.own (h : Fed w n₀ b F m) : F b := by obtain ⟨_, _, _, _, _, _, _, _, _, _, _, rfl⟩ := h; exact .inl rfl
theorem Fed.ge (h : Fed w n₀ b F m) : ∀ i, F i → n₀ ≤ i := by obtain ⟨_, _, _, _, _, _, _, h1, _, _, _, rfl⟩ := h; exact h1.footGe
theorem Fed.lt (h : Fed w n₀ b F m) : ∀ i, F i → i < w.heap.size := by obtain ⟨_, _, _, _, _, _, _, h1, _, _, _, rfl⟩ := h; exact h1.footLt
theorem Fed.kind (h : Fed w n₀ b F m) {i : Nat} (hi : F i) : ∃ cs t, w.heap[i]? = some (.cells cs t (0, 0)) ∧ (t = 141 ∨ t = 174 ∨ t = 5 ∨ t = 177 ∨ t = 189) := by
 obtain ⟨_, _, _, _, _, _, _, h1, _, _, _, rfl⟩ := h; exact h1.kind hi
theorem Fed.keeps {S : Nat → Prop} (h : Fed w n₀ b F m) (k : Keeps S w w') (hs : ∀ i, F i → ¬ S i) : Fed w' n₀ b F m := by
 obtain ⟨br, bw, ao, cap, aw, capw, l, h1, h2, h3, h4, rfl⟩ := h
 exact ⟨br, bw, ao, cap, aw, capw, l, h1.keeps k hs, h2, h3, h4, rfl⟩
theorem Fed.old (h : Fed w n₀ b F m) (k : Below w.heap.size w w') : Fed w' n₀ b F m := h.keeps (Keeps.ofOld k (fun _ => False)) (fun _ _ e => e)
theorem Fed.drewN (h : Fed w n₀ b F m) (q : Nat) : Fed (w.drewN q) n₀ b F m := h.old ⟨rfl, rfl, rfl, Nat.le_refl _, fun _ _ => rfl⟩
theorem Fed.below (h : Fed w n₀ b F m) {n : Nat} (hn : n ≤ w.heap.size) (hF : ∀ i, F i → n ≤ i) (k : Keeps F w w') : Below n w w' := k.below hn hF
end

/-- the feed m', wherever its parts lie now. -/
structure Left (n₀ b : Nat) (F : Nat → Prop) (m' : Fd) (w w' : World) : Prop where
 ex : ∃ F', Fed w' n₀ b F' m' ∧ ∀ i, F' i → F i ∨ w.heap.size ≤ i
 keeps : Keeps F w w'
theorem Left.same {n₀ b : Nat} {F : Nat → Prop} {m : Fd} {w w' : World} (h : Fed w n₀ b F m) (k : Below w.heap.size w w') : Left n₀ b F m w w' := ⟨⟨F, h.old k, fun _ hi => .inl hi⟩, Keeps.ofOld k _⟩
theorem Left.trans {n₀ b : Nat} {F F1 : Nat → Prop} {m' : Fd} {a w w' : World} (hn : ∀ i, F1 i → F i ∨ a.heap.size ≤ i) (hk : Keeps F a w) (h : Left n₀ b F1 m' w w') : Left n₀ b F m' a w' := by
 obtain ⟨F', hc, hn'⟩ := h.ex
 refine ⟨⟨F', hc, fun i hi => ?_⟩, hk.trans h.keeps ?_⟩
 · rcases hn' i hi with h1 | h1
   · exact hn i h1
   · exact .inr (Nat.le_trans hk.size h1)
 · intro i hi hf
   rcases hn i hf with h1 | h1
   · exact h1
   · omega
theorem Left.mk' {n₀ b br bw : Nat} {ao aw ao' aw' : Option Addr} {cap capw : Nat} {l : List (Int × Int)} {m' : Fd} {w w' : World}
 (h : Parts w' n₀ b br bw ao' cap aw' capw m'.first (kept m') (gs m') (wF m') l) (hg : Ru.Good 64 (wF m') l) (hl : ∀ k : Nat, m'.first ≤ k → m'.us k = look l k) (ho : Ok m') (hr : Near ao ao' w.heap.size) (hw : Near aw aw' w.heap.size) (hk : Keeps (FFoot b br bw ao aw) w w') : Left n₀ b (FFoot b br bw ao aw) m' w w' :=
 ⟨⟨_, ⟨br, bw, ao', cap, aw', capw, l, h, hg, hl, ho, rfl⟩, fun i hi => foot_near hr hw hi⟩, hk⟩

end Go.Proofs.YtfclnhmijjlhdaaGreatDoor.Fd

namespace Go.Proofs.YtfclnhmijjlhdaaGreatDoor.Fd
open Go.RowKit Go.Proofs.YtfclnhmijjlhdaaGreatDoor.Rg
set_option linter.unusedVariables false
set_option maxRecDepth 100000

theorem quiet_c {P : Program} {f : FuncId} {args : Array Value} {w : World} {n : Nat} {v : Value} (h : Calls P f args (w.drewN n) fun e w' => e = .returned v ∧ w.drewN n = w') : Calls P f args (w.drewN n) fun e w'' => e = .returned v ∧ ∃ m, w'' = w.drewN m :=
 Calls.quiet_of_same (h.mono fun e w' ⟨he, hw⟩ => ⟨he, hw.symm⟩)

theorem first_nil (w : World) :
 Calls Tryz.prog 89 #[.pointer none] w fun e w' => e = .returned (.int .i64 0) ∧ w = w' := by
 go_enter Tryz.func89, Tryz.ntmps89
 go_wp2_with fail
 go_ret
 exact ⟨rfl, rfl⟩

theorem first_c (b : Nat) (n : Int) (w : World) (h : w.cell? ⟨b, 0, none⟩ = some (.int .i64 n)) :
 Calls Tryz.prog 89 #[.pointer (some ⟨b, 0, none⟩)] w fun e w' => e = .returned (.int .i64 n) ∧ w = w' := by
 go_enter Tryz.func89, Tryz.ntmps89
 go_wp2_with fail
 go_ret
 exact ⟨rfl, rfl⟩

theorem next_nil (w : World) :
 Calls Tryz.prog 71 #[.pointer none] w fun e w' => e = .returned (.int .i64 0) ∧ w = w' := by
 go_enter Tryz.func71, Tryz.ntmps71
 go_wp2_with fail
 go_ret
 exact ⟨rfl, rfl⟩

theorem kept_len {m : Fd} (h : Ok m) : (m.first : Int) + ((kept m).length : Int) = (m.L.length : Int) := by
 have := h.le
 unfold kept
 rw [List.length_drop]
 omega

theorem next_c (n₀ b : Nat) (F : Nat → Prop) (m : Fd) (w : World) (h : Fed w n₀ b F m) :
 Calls Tryz.prog 71 #[.pointer (some ⟨b, 0, none⟩)] w fun e w' => e = .returned (.int .i64 m.L.length) ∧ ∃ q, w' = w.drewN q := by
 obtain ⟨br, bw, ao, cap, aw, capw, l, hp, _, _, ho, rfl⟩ := h
 obtain ⟨c0, c1, _, _⟩ := hp.cells
 have hl := kept_len ho
 have h1 := ho.len
 have r1 : ∀ q, (w.drewN q).cell? ⟨br, 1, none⟩ = some (.slice ao (kept m).length cap) := fun q => by simpa using (hp.drewN q).ring.cell 1
 have R1 := hid r1
 have hw : IntKind.i64.wrap ((m.first : Int) + ((kept m).length : Int)) = (m.L.length : Int) := by rw [hl]; exact IntWalk.i64_in _ (by omega)
 clear r1 hl hp ho
 go_enter Tryz.func71, Tryz.ntmps71
 go_wp2_with fail
 go_quiet (first | (go_at_call 118; exact quiet_c (Ru.len_c _ _ _ _ _ (R1.out _))))
 go_wp2_with fail
 go_ret
 exact ⟨rfl, _, rfl⟩

theorem known_nil (f : Int) (w : World) :
 Calls Tryz.prog 56 #[.pointer none, .int .i64 f] w fun e w' => e = .returned (.tuple #[.int .u8 0, .bool false]) ∧ w = w' := by
 go_enter Tryz.func56, Tryz.ntmps56
 go_wp2_with fail
 go_ret2
 exact ⟨rfl, rfl⟩

theorem kn_at {m : Fd} {f : Int} (h : (m.first : Int) ≤ f) : Ru.atI (kept m) (f - m.first) = knV m f ∧ Ru.atB (kept m) (f - m.first) = knB m f := by
 obtain ⟨k, rfl⟩ := Int.eq_ofNat_of_zero_le (show 0 ≤ f by omega)
 have hk : (kept m)[((k : Int) - m.first).toNat]? = kn m k := by
  unfold kn kept
  rw [if_pos h, List.getElem?_drop]
  congr 1
  omega
 by_cases h1 : (((kept m).length : Nat) : Int) ≤ (k : Int) - m.first
 · have h2 := Ru.at_far (l := kept m) h1
   have h3 : kn m k = none := by rw [← hk]; exact List.getElem?_eq_none (by omega)
   rw [h2.1, h2.2]
   simp [knV, knB, h3]
 · obtain ⟨j, hj⟩ := Int.eq_ofNat_of_zero_le (show 0 ≤ (k : Int) - m.first by omega)
   rw [hj] at hk ⊢
   have hj2 : j < (kept m).length := by omega
   have h2 := Ru.at_in (l := kept m) hj2
   rw [h2.1, h2.2]
   have h3 : kn m k = (kept m)[j]? := by rw [← hk]; rfl
   simp [knV, knB, h3, hj2]

theorem known_c (f : Int) (n₀ b : Nat) (F : Nat → Prop) (m : Fd) (w : World) (h : Fed w n₀ b F m) (hf : f ≤ 9223372036854775807) :
 Calls Tryz.prog 56 #[.pointer (some ⟨b, 0, none⟩), .int .i64 f] w fun e w' => e = .returned (.tuple #[.int .u8 (knV m f), .bool (knB m f)]) ∧ ∃ q, w' = w.drewN q := by
 obtain ⟨br, bw, ao, cap, aw, capw, l, hp, _, _, ho, rfl⟩ := h
 obtain ⟨c0, c1, _, _⟩ := hp.cells
 by_cases h1 : f < (m.first : Int)
 · have d1 : decide (f < (m.first : Int)) = true := by simpa using h1
   have e1 : knV m f = 0 ∧ knB m f = false := by
    have : kn m f = none := kn_none (.inl h1)
    simp [knV, knB, this]
   rw [e1.1, e1.2]
   clear e1 h1
   go_enter Tryz.func56, Tryz.ntmps56
   go_wp2_with fail
   go_ret2
   exact ⟨rfl, 0, rfl⟩
 · have d1 : decide (f < (m.first : Int)) = false := by simpa using h1
   obtain ⟨e1, e2⟩ := kn_at (m := m) (f := f) (by omega)
   rw [← e1, ← e2]
   have hk : (kept m).length ≤ 4096 := by have := ho.few; have := ho.le; unfold kept; rw [List.length_drop]; omega
   have hw : IntKind.i64.wrap (f - (m.first : Int)) = f - (m.first : Int) := IntWalk.i64_in _ (by omega)
   have R1 := hid (fun q => (hp.drewN q).ring)
   have HA := hid (fun q => Ru.at_c (f - (m.first : Int)) n₀ br 64 cap ao (kept m) (w.drewN q) (R1.out q) hk)
   clear e1 e2 h1 hp ho
   go_enter Tryz.func56, Tryz.ntmps56
   go_wp2_with fail
   go_quiet (first | (go_at_call 91; exact quiet_c (HA.out _)))
   go_wp2_with fail
   go_ret2
   exact ⟨rfl, _, rfl⟩

set_option maxHeartbeats 1000000 in
theorem ahead_c (f : Int) (n₀ b : Nat) (F : Nat → Prop) (m : Fd) (w : World) (h : Fed w n₀ b F m) :
 Calls Tryz.prog 92 #[.pointer (some ⟨b, 0, none⟩), .int .i64 f] w fun e w' => e = .returned (.int .i64 (trimN m f)) ∧ ∃ q, w' = w.drewN q := by
 obtain ⟨c0, ho⟩ : w.cell? ⟨b, 0, none⟩ = some (.int .i64 m.first) ∧ Ok m := by
  obtain ⟨br, bw, ao, cap, aw, capw, l, hp, _, _, ho, _⟩ := h
  exact ⟨hp.cells.1, ho⟩
 have h1 := ho.le
 have h2 := ho.len
 have HN := hid (next_c n₀ b F m w.drew (h.drewN 1))
 have hw : IntKind.i64.wrap (min (max f (m.first : Int)) (m.L.length : Int) - (m.first : Int)) = (trimN m f : Int) := by
  unfold trimN
  rw [IntWalk.i64_in _ (by omega)]
  omega
 clear h h1 h2 ho
 go_enter Tryz.func92, Tryz.ntmps92
 go_wp2_with fail
 go_region_held3 (fun w' => w'.cell? ⟨b, 0, none⟩ = some (.int .i64 m.first))
  (go_keep)
  (first | (go_at_call 71; ((with_reducible refine HN.out.mono ?_); rintro e w' ⟨rfl, q, rfl⟩)))
 all_goals
  go_wp2_with fail
  go_ret
  exact ⟨rfl, _, rfl⟩

end Go.Proofs.YtfclnhmijjlhdaaGreatDoor.Fd
