/- One act on both cables (does): they answer alike, and are left alike. -/
import Derived.Test.YtfifoikphhjomaaCbLaw
namespace Go.Proofs.Ytfifoikphhjomaa.Cb
open Go.RowKit Go.Proofs.Ytfifoikphhjomaa.Rg Go.ChangeShapes Go.WideShapes Go.Deep
set_option linter.unusedVariables false
set_option linter.unusedSimpArgs false

/-- an act. -/
structure Ac where
  kd : Int
  dd : Int
  i : Int
  s : ByteArray
  at_ : Int
  by_ : Int
def cellsA (x : Ac) : Array Value := #[.int .i64 x.kd, .int .i64 x.dd, .int .i64 x.i, .string x.s, .int .i64 x.at_, .int .u8 x.by_]
def ActAt (w : World) (xb : Nat) (x : Ac) : Prop := w.heap[xb]? = some (.cells (cellsA x) 34 (0, 0))
/-- blocks of acts are as they were. -/
def Others (w w' : World) : Prop := ∀ (k : Nat) (cs : Array Value) (fr : Nat × Nat), w.heap[k]? = some (.cells cs 34 fr) → w'.heap[k]? = some (.cells cs 34 fr)
theorem Others.refl (w : World) : Others w w := fun _ _ _ h => h
theorem Others.trans {a b c : World} (h : Others a b) (k : Others b c) : Others a c := fun i cs fr e => k i cs fr (h i cs fr e)
theorem Others.old {a b : World} (h : Below a.heap.size a b) : Others a b := fun k cs fr e => (h.block k (Array.getElem?_eq_some_iff.1 e).1).trans e
theorem Others.drewN (w : World) (q : Nat) : Others w (w.drewN q) := fun _ _ _ h => h
theorem Others.keeps {S : Nat → Prop} {w w' : World} (h : Keeps S w w') (hs : ∀ i, S i → ∃ cs t, w.heap[i]? = some (.cells cs t (0, 0)) ∧ t ≠ 34) : Others w w' := by
  intro k cs fr e
  refine (h.block k (Array.getElem?_eq_some_iff.1 e).1 ?_).trans e
  intro hk
  obtain ⟨cs', t, h1, h2⟩ := hs k hk
  have := h1.symm.trans e
  simp at this
  exact h2 this.2.1
theorem ActAt.keep {w w' : World} {xb : Nat} {x : Ac} (h : ActAt w xb x) (o : Others w w') : ActAt w' xb x := o xb _ _ h
theorem ActAt.cell {w : World} {xb : Nat} {x : Ac} (h : ActAt w xb x) : w.cell? ⟨xb, 0, none⟩ = some (.int .i64 x.kd) ∧ w.cell? ⟨xb, 1, none⟩ = some (.int .i64 x.dd) ∧ w.cell? ⟨xb, 2, none⟩ = some (.int .i64 x.i) ∧ w.cell? ⟨xb, 3, none⟩ = some (.string x.s) ∧ w.cell? ⟨xb, 4, none⟩ = some (.int .i64 x.at_) ∧ w.cell? ⟨xb, 5, none⟩ = some (.int .u8 x.by_) := by
  refine ⟨?_, ?_, ?_, ?_, ?_, ?_⟩ <;> (rw [cell_of_row w xb _ _ _ _ h]; rfl)
theorem ActAt.new (w : World) (x : Ac) : ActAt (w.alloc (.cells (cellsA x) 34)) w.heap.size x := heap_alloc_new w _

/-- both cables, and nothing that lay ahead of them has turned. -/
structure Both (w₀ w : World) (b m size : Nat) (st sm : St) : Prop where
  ex : ∃ bs aos caps aom capm, Cab w w₀.heap.size size b bs aos caps st ∧ Mir w w₀.heap.size size m aom capm sm ∧ (∀ i, CFoot b bs aos i → ¬ MFoot m aom i)
  old : Below w₀.heap.size w₀ w

section
variable {w₀ w w' : World} {b m size : Nat} {st sm st' sm' : St}

theorem Both.keep (h : Both w₀ w b m size st sm) (hb : Below w.heap.size w w') : Both w₀ w' b m size st sm := by
  obtain ⟨bs, aos, caps, aom, capm, h1, h2, h3⟩ := h.ex
  exact ⟨⟨bs, aos, caps, aom, capm, h1.old hb, h2.old hb, h3⟩, h.old.trans (hb.mono h.old.size)⟩
theorem Both.drewN (h : Both w₀ w b m size st sm) (q : Nat) : Both w₀ (w.drewN q) b m size st sm := h.keep ⟨rfl, rfl, rfl, Nat.le_refl _, fun _ _ => rfl⟩

/-- the program's cable was changed. -/
theorem cab_step {bs : Nat → Nat} {aos : Nat → Option Addr} {caps : Nat → Nat} {aom : Nat → Option Addr} {capm : Nat → Nat} (ho : Below w₀.heap.size w₀ w) (h1 : Cab w w₀.heap.size size b bs aos caps st) (h2 : Mir w w₀.heap.size size m aom capm sm) (h3 : ∀ i, CFoot b bs aos i → ¬ MFoot m aom i)
    (hl : Left w₀.heap.size size b bs aos st' w w') : Both w₀ w' b m size st' sm ∧ Others w w' := by
  obtain ⟨⟨aos', caps', hc, hn⟩, hk⟩ := hl
  refine ⟨⟨⟨bs, aos', caps', aom, capm, hc, h2.keeps hk (fun i hi hf => h3 i hf hi), ?_⟩, ho.trans (hk.below ho.size h1.footGe)⟩, Others.keeps hk ?_⟩
  · intro i hi hm
    rcases hn.foot hi with h4 | h4
    · exact h3 i h4 hm
    · have := h2.footLt i hm; omega
  · intro i hi
    obtain ⟨cs, t, e1, e2⟩ := h1.kind hi
    exact ⟨cs, t, e1, by rcases e2 with rfl | rfl | rfl <;> decide⟩
/-- the document's cable was changed. -/
theorem mir_step {bs : Nat → Nat} {aos : Nat → Option Addr} {caps : Nat → Nat} {aom : Nat → Option Addr} {capm : Nat → Nat} (ho : Below w₀.heap.size w₀ w) (h1 : Cab w w₀.heap.size size b bs aos caps st) (h2 : Mir w w₀.heap.size size m aom capm sm) (h3 : ∀ i, CFoot b bs aos i → ¬ MFoot m aom i)
    (hl : LeftM w₀.heap.size size m aom sm' w w') : Both w₀ w' b m size st sm' ∧ Others w w' := by
  obtain ⟨⟨aom', capm', hc, hn⟩, hk⟩ := hl
  refine ⟨⟨⟨bs, aos, caps, aom', capm', h1.keeps hk (fun i hi hf => h3 i hi (.inl hf)), hc, ?_⟩, ho.trans (hk.below ho.size (fun k e => by rw [e]; exact h2.ge))⟩, Others.keeps hk ?_⟩
  · rintro i hi (rfl | ⟨t, ht, a, ha, rfl⟩)
    · exact h3 _ hi (.inl rfl)
    · rcases hn t ht a ha with ⟨c, hc', e⟩ | h4
      · exact h3 _ hi (.inr ⟨t, ht, c, hc', e.symm⟩)
      · have := h1.footLt _ hi; omega
  · rintro i rfl
    exact ⟨_, _, h2.block, by decide⟩
end

section
variable (w₀ w : World) (b m size : Nat) (st sm : St)

theorem send_both (dd : Int) (s : ByteArray) (h : Both w₀ w b m size st sm) (ok : Ok size st) (hs : size ≤ 64) (hl : st.lost ≤ 100000) :
    Calls Try.prog 11 #[.pointer (some ⟨b, 0, none⟩), .int .i64 dd, .string s] w fun e w' => e = .returned (.tuple #[.bool (sendB size st dd s), .int .i64 (sendE dd s)]) ∧ Both w₀ w' b m size (sendSt size st dd s) sm ∧ Others w w' := by
  obtain ⟨bs, aos, caps, aom, capm, h1, h2, h3⟩ := h.ex
  refine (csend_c dd s w _ size b bs aos caps st h1 (by omega) ok.len (by omega) h.old.size).mono ?_
  rintro e w' ⟨rfl, hL⟩
  exact ⟨rfl, cab_step h.old h1 h2 h3 hL⟩
theorem rsend_both (dd : Int) (s : ByteArray) (h : Both w₀ w b m size st sm) (ok : Ok size sm) (hs : size ≤ 64) (hl : sm.lost ≤ 100000) :
    Calls Try.prog 18 #[.pointer (some ⟨m, 0, none⟩), .int .i64 dd, .string s] w fun e w' => e = .returned (.tuple #[.bool (sendB size sm dd s), .int .i64 (sendE dd s)]) ∧ Both w₀ w' b m size st (sendSt size sm dd s) ∧ Others w w' := by
  obtain ⟨bs, aos, caps, aom, capm, h1, h2, h3⟩ := h.ex
  refine (rsend_c dd s w _ size m aom capm sm h2 (by omega) ok.len (by omega) h.old.size).mono ?_
  rintro e w' ⟨rfl, hL⟩
  exact ⟨rfl, mir_step h.old h1 h2 h3 hL⟩
theorem take_both (dd i : Int) (h : Both w₀ w b m size st sm) (ok : Ok size st) (hs : size ≤ 64) :
    Calls Try.prog 12 #[.pointer (some ⟨b, 0, none⟩), .int .i64 dd, .int .i64 i] w fun e w' => e = .returned (.tuple #[.string (atS (flyL st.L dd) i), .bool (inB (flyL st.L dd).length i)]) ∧ Both w₀ w' b m size (takeSt st dd i) sm ∧ Others w w' := by
  obtain ⟨bs, aos, caps, aom, capm, h1, h2, h3⟩ := h.ex
  refine (ctake_c dd i w _ size b bs aos caps st h1 (fun t ht => Nat.le_trans (ok.len t ht) (by omega))).mono ?_
  rintro e w' ⟨rfl, hL⟩
  exact ⟨rfl, cab_step h.old h1 h2 h3 hL⟩
theorem rtake_both (dd i : Int) (h : Both w₀ w b m size st sm) (ok : Ok size sm) (hs : size ≤ 64) :
    Calls Try.prog 19 #[.pointer (some ⟨m, 0, none⟩), .int .i64 dd, .int .i64 i] w fun e w' => e = .returned (.tuple #[.string (atS (flyL sm.L dd) i), .bool (inB (flyL sm.L dd).length i)]) ∧ Both w₀ w' b m size st (takeSt sm dd i) ∧ Others w w' := by
  obtain ⟨bs, aos, caps, aom, capm, h1, h2, h3⟩ := h.ex
  refine (rtake_c dd i w _ size m aom capm sm h2 (fun t ht => Nat.le_trans (ok.len t ht) (by omega)) h.old.size).mono ?_
  rintro e w' ⟨rfl, hL⟩
  exact ⟨rfl, mir_step h.old h1 h2 h3 hL⟩
theorem copy_both (dd i : Int) (h : Both w₀ w b m size st sm) (ok : Ok size st) (hs : size ≤ 64) :
    Calls Try.prog 13 #[.pointer (some ⟨b, 0, none⟩), .int .i64 dd, .int .i64 i] w fun e w' => e = .returned (.tuple #[.string (atS (flyL st.L dd) i), .bool (inB (flyL st.L dd).length i)]) ∧ Both w₀ w' b m size st sm ∧ Others w w' := by
  obtain ⟨bs, aos, caps, aom, capm, h1, h2, h3⟩ := h.ex
  refine (ccopy_c dd i w _ size b bs aos caps st h1 (fun t ht => Nat.le_trans (ok.len t ht) (by omega)) (ok.at_le dd i)).mono ?_
  rintro e w' ⟨rfl, hB⟩
  exact ⟨rfl, h.keep hB, Others.old hB⟩
theorem rcopy_both (dd i : Int) (h : Both w₀ w b m size st sm) :
    Calls Try.prog 20 #[.pointer (some ⟨m, 0, none⟩), .int .i64 dd, .int .i64 i] w fun e w' => e = .returned (.tuple #[.string (atS (flyL sm.L dd) i), .bool (inB (flyL sm.L dd).length i)]) ∧ w = w' := by
  obtain ⟨bs, aos, caps, aom, capm, h1, h2, h3⟩ := h.ex
  exact rcopy_c dd i w _ size m aom capm sm h2
theorem drop_both (dd i : Int) (h : Both w₀ w b m size st sm) (ok : Ok size st) (hs : size ≤ 64) (hl : st.lost ≤ 100000) :
    Calls Try.prog 14 #[.pointer (some ⟨b, 0, none⟩), .int .i64 dd, .int .i64 i] w fun e w' => e = .returned (.bool (inB (flyL st.L dd).length i)) ∧ Both w₀ w' b m size (dropSt st dd i) sm ∧ Others w w' := by
  obtain ⟨bs, aos, caps, aom, capm, h1, h2, h3⟩ := h.ex
  refine (cdrop_c dd i w _ size b bs aos caps st h1 (fun t ht => Nat.le_trans (ok.len t ht) (by omega)) (by omega)).mono ?_
  rintro e w' ⟨rfl, hL⟩
  exact ⟨rfl, cab_step h.old h1 h2 h3 hL⟩
theorem spoil_both (dd i at_ by_ : Int) (h : Both w₀ w b m size st sm) (ok : Ok size st) (hs : size ≤ 64) (hb : 0 ≤ by_ ∧ by_ ≤ 255) :
    Calls Try.prog 16 #[.pointer (some ⟨b, 0, none⟩), .int .i64 dd, .int .i64 i, .int .i64 at_, .int .u8 by_] w fun e w' => e = .returned (.tuple #[.string (outS st.L dd i at_ by_), .bool (inB (flyL st.L dd).length i)]) ∧ Both w₀ w' b m size (takeSt st dd i) sm ∧ Others w w' := by
  obtain ⟨bs, aos, caps, aom, capm, h1, h2, h3⟩ := h.ex
  refine (cspoil_c dd i at_ by_ w _ size b bs aos caps st h1 (fun t ht => Nat.le_trans (ok.len t ht) (by omega)) (fun hi => by have := ok.fly hi; omega) hb).mono ?_
  rintro e w' ⟨rfl, hL⟩
  exact ⟨rfl, cab_step h.old h1 h2 h3 hL⟩
theorem cut_both (h : Both w₀ w b m size st sm) (ok : Ok size st) (hs : size ≤ 64) (hl : st.lost ≤ 100000) :
    Calls Try.prog 15 #[.pointer (some ⟨b, 0, none⟩)] w fun e w' => e = .returned (.int .i64 (((st.L 0).length + (st.L 1).length : Nat) : Int)) ∧ Both w₀ w' b m size (cutSt st) sm ∧ Others w w' := by
  obtain ⟨bs, aos, caps, aom, capm, h1, h2, h3⟩ := h.ex
  refine (ccut_c w _ size b bs aos caps st h1 (fun t ht => Nat.le_trans (ok.len t ht) (by omega)) hl).mono ?_
  rintro e w' ⟨rfl, hL⟩
  exact ⟨rfl, cab_step h.old h1 h2 h3 hL⟩
/-- the document's count is stored. -/
theorem count_both (h : Both w₀ w b m size st sm) (k : Nat) : Both w₀ (w.setCell ⟨m, 3, none⟩ (.int .i64 k)) b m size st ⟨sm.L, k⟩ ∧ Others w (w.setCell ⟨m, 3, none⟩ (.int .i64 k)) := by
  obtain ⟨bs, aos, caps, aom, capm, h1, h2, h3⟩ := h.ex
  exact mir_step h.old h1 h2 h3 ⟨⟨aom, capm, h2.count k, Nears.refl _ _⟩, (Keeps.refl (fun i => i = m) w).setCell (p := ⟨m, 3, none⟩) (fun _ => rfl) _⟩
/-- the document's lists are cleared. -/
theorem clear_both (h : Both w₀ w b m size st sm) : Both w₀ ((w.setCell ⟨m, 1, none⟩ (.slice none 0 0)).setCell ⟨m, 2, none⟩ (.slice none 0 0)) b m size st ⟨fun _ => [], sm.lost⟩ ∧ Others w ((w.setCell ⟨m, 1, none⟩ (.slice none 0 0)).setCell ⟨m, 2, none⟩ (.slice none 0 0)) := by
  obtain ⟨bs, aos, caps, aom, capm, h1, h2, h3⟩ := h.ex
  have hr : ∀ W : World, W.ownsRow w₀.heap.size 9 1 (.slice none ([] : List ByteArray).length 0) ([] : List ByteArray).length (strs []) := fun W => World.ownsRow_nil _ _ _ _
  have h4 := h2.step (t := 0) (by omega) (hr w) (fun a ha => by cases ha)
  have h5 := h4.step (t := 1) (by omega) (hr _) (fun a ha => by cases ha)
  refine mir_step h.old h1 h2 h3 ⟨⟨_, _, h5.congr ?_ rfl, ?_⟩, ((Keeps.refl (fun i => i = m) w).setCell (p := ⟨m, 1, none⟩) (fun _ => rfl) _).setCell (p := ⟨m, 2, none⟩) (fun _ => rfl) _⟩
  · intro t ht
    rcases t with _ | _ | t
    · rfl
    · rfl
    · omega
  · intro t ht
    rcases t with _ | _ | t
    · intro a ha; cases ha
    · intro a ha; cases ha
    · omega
theorem Both.cells (h : Both w₀ w b m size st sm) : w.cell? ⟨m, 3, none⟩ = some (.int .i64 sm.lost) ∧ (∀ j, w.frozen? ⟨m, j, none⟩ = false) ∧ ∃ a0 c0 a1 c1, w.cell? ⟨m, 1, none⟩ = some (.slice a0 (sm.L 0).length c0) ∧ w.cell? ⟨m, 2, none⟩ = some (.slice a1 (sm.L 1).length c1) := by
  obtain ⟨bs, aos, caps, aom, capm, h1, h2, h3⟩ := h.ex
  exact ⟨h2.cell3, h2.frozen, _, _, _, _, h2.cell (t := 0) (by omega), h2.cell (t := 1) (by omega)⟩
end

/-- what an act leaves. -/
def playSt (size : Nat) (st : St) (x : Ac) : St :=
  if x.kd = 1 then sendSt size st x.dd x.s else if x.kd = 2 then takeSt st x.dd x.i else if x.kd = 3 then st else if x.kd = 4 then dropSt st x.dd x.i else if x.kd = 5 then takeSt st x.dd x.i else if x.kd = 6 then cutSt st else st
theorem play_ok {size : Nat} {st : St} (h : Ok size st) (x : Ac) : Ok size (playSt size st x) ∧ total (playSt size st x) ≤ total st + 1 := by
  have h1 := h.send x.dd x.s
  have h2 := h.take x.dd x.i
  have h3 := h.drop x.dd x.i
  have h4 := h.cut
  unfold playSt
  split
  · refine ⟨h1.1, ?_⟩
    rw [h1.2]
    split <;> omega
  · split
    · exact ⟨h2.1, by omega⟩
    · split
      · exact ⟨h, by omega⟩
      · split
        · exact ⟨h3.1, by omega⟩
        · split
          · exact ⟨h2.1, by omega⟩
          · split
            · exact ⟨h4.1, by omega⟩
            · exact ⟨h, by omega⟩
theorem lost_total (st : St) : st.lost ≤ total st := by unfold total; omega

end Go.Proofs.Ytfifoikphhjomaa.Cb
