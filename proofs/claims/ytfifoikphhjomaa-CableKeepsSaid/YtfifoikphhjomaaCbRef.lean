/- The document's cable (promptbookref08) in memory, and what its Copy, Send and Take return and leave. -/
import Derived.Test.YtfifoikphhjomaaCbNew
namespace Go.Proofs.Ytfifoikphhjomaa.Cb
open Go.RowKit Go.Proofs.Ytfifoikphhjomaa.Rg
set_option linter.unusedVariables false

/-- the document's cable: how many may fly, two lists, how many were lost. -/
structure Mir (w : World) (n₀ size m : Nat) (aos : Nat → Option Addr) (caps : Nat → Nat) (st : St) : Prop where
  block : w.heap[m]? = some (.cells #[.int .i64 size, .slice (aos 0) (st.L 0).length (caps 0), .slice (aos 1) (st.L 1).length (caps 1), .int .i64 st.lost] 32 (0, 0))
  ge : n₀ ≤ m
  row : ∀ t, t < 2 → w.ownsRow n₀ 9 1 (.slice (aos t) (st.L t).length (caps t)) (st.L t).length (strs (st.L t))

/-- its blocks. -/
def MFoot (m : Nat) (aos : Nat → Option Addr) (i : Nat) : Prop := i = m ∨ ∃ t, t < 2 ∧ ∃ a, aos t = some a ∧ i = a.block

section
variable {w w' : World} {n₀ size m : Nat} {aos : Nat → Option Addr} {caps : Nat → Nat} {st : St}

theorem Mir.lt (h : Mir w n₀ size m aos caps st) : m < w.heap.size := (Array.getElem?_eq_some_iff.1 h.block).1
theorem Mir.cell0 (h : Mir w n₀ size m aos caps st) : w.cell? ⟨m, 0, none⟩ = some (.int .i64 size) := by
  rw [cell_of_row w m 0 _ _ _ h.block]; rfl
theorem Mir.cell3 (h : Mir w n₀ size m aos caps st) : w.cell? ⟨m, 3, none⟩ = some (.int .i64 st.lost) := by
  rw [cell_of_row w m 3 _ _ _ h.block]; rfl
theorem Mir.cell (h : Mir w n₀ size m aos caps st) {t : Nat} (ht : t < 2) : w.cell? ⟨m, 1 + t, none⟩ = some (.slice (aos t) (st.L t).length (caps t)) := by
  rw [cell_of_row w m (1 + t) _ _ _ h.block]
  rcases t with _ | _ | t
  · rfl
  · rfl
  · omega
theorem Mir.frozen (h : Mir w n₀ size m aos caps st) (j : Nat) : w.frozen? ⟨m, j, none⟩ = false := frozen_of_row w m j _ _ h.block
theorem Mir.form (h : Mir w n₀ size m aos caps st) {t : Nat} (ht : t < 2) {a : Addr} (ha : aos t = some a) : n₀ ≤ a.block ∧ ∃ cur, w.heap[a.block]? = some (.cells cur 9 (0, 0)) := by
  rcases (h.row t ht).2 with ⟨h1, _⟩ | ⟨g, cap', cur, h1, hb, hg, _⟩
  · simp at h1; rw [h1.1] at ha; cases ha
  · simp at h1; rw [h1.1] at ha; cases ha
    exact ⟨hb, cur, hg⟩
theorem Mir.kind (h : Mir w n₀ size m aos caps st) {i : Nat} (hi : MFoot m aos i) : ∃ cs t, w.heap[i]? = some (.cells cs t (0, 0)) ∧ (t = 32 ∨ t = 9) := by
  rcases hi with rfl | ⟨t, ht, a, ha, rfl⟩
  · exact ⟨_, _, h.block, .inl rfl⟩
  · obtain ⟨_, cur, hg⟩ := h.form ht ha
    exact ⟨cur, _, hg, .inr rfl⟩
theorem Mir.footGe (h : Mir w n₀ size m aos caps st) : ∀ i, MFoot m aos i → n₀ ≤ i := by
  rintro i (rfl | ⟨t, ht, a, ha, rfl⟩)
  · exact h.ge
  · exact (h.form ht ha).1
theorem Mir.footLt (h : Mir w n₀ size m aos caps st) : ∀ i, MFoot m aos i → i < w.heap.size := by
  intro i hi
  obtain ⟨cs, t, hh, _⟩ := h.kind hi
  exact (Array.getElem?_eq_some_iff.1 hh).1
theorem Mir.not_m (h : Mir w n₀ size m aos caps st) {t : Nat} (ht : t < 2) {a : Addr} (ha : aos t = some a) : a.block ≠ m := by
  intro e
  obtain ⟨_, cur, hg⟩ := h.form ht ha
  rw [e] at hg
  have := h.block.symm.trans hg
  simp at this
theorem own_block {ao : Option Addr} {n c k : Nat} (h : Value.ownBlock (.slice ao n c) = some k) : ∃ a, ao = some a ∧ k = a.block := by
  cases ao with
  | none => simp [Value.ownBlock] at h
  | some a => exact ⟨a, rfl, by simpa [Value.ownBlock] using h.symm⟩
theorem Mir.keeps {S : Nat → Prop} (h : Mir w n₀ size m aos caps st) (k : Keeps S w w') (hs : ∀ i, MFoot m aos i → ¬ S i) : Mir w' n₀ size m aos caps st :=
  ⟨(k.block m h.lt (hs m (.inl rfl))).trans h.block, h.ge, fun t ht => k.row (h.row t ht) (fun i hi => by
    obtain ⟨a, ha, rfl⟩ := own_block hi
    exact hs _ (.inr ⟨t, ht, a, ha, rfl⟩))⟩
theorem Mir.old (h : Mir w n₀ size m aos caps st) (k : Below w.heap.size w w') : Mir w' n₀ size m aos caps st := h.keeps (Keeps.ofOld k (fun _ => False)) (fun _ _ e => e)
theorem Mir.drewN (h : Mir w n₀ size m aos caps st) (q : Nat) : Mir (w.drewN q) n₀ size m aos caps st := h.old ⟨rfl, rfl, rfl, Nat.le_refl _, fun _ _ => rfl⟩
theorem Mir.congr {L' : Nat → List ByteArray} {lost : Nat} (h : Mir w n₀ size m aos caps st) (hL : ∀ t, t < 2 → st.L t = L' t) (hl : st.lost = lost) : Mir w n₀ size m aos caps ⟨L', lost⟩ :=
  ⟨by show _ = some (Obj.cells #[.int .i64 size, .slice (aos 0) (L' 0).length (caps 0), .slice (aos 1) (L' 1).length (caps 1), .int .i64 lost] _ _); rw [← hl, ← hL 0 (by omega), ← hL 1 (by omega)]; exact h.block, h.ge,
    fun t ht => by show World.ownsRow _ _ _ _ (.slice (aos t) (L' t).length (caps t)) (L' t).length (strs (L' t)); rw [← hL t ht]; exact h.row t ht⟩

/-- one of its lists was stored: a list in new memory. -/
theorem Mir.step {t : Nat} (h : Mir w' n₀ size m aos caps st) (ht : t < 2) {ao' : Option Addr} {cap' : Nat} {l' : List ByteArray} (hr : w'.ownsRow n₀ 9 1 (.slice ao' l'.length cap') l'.length (strs l')) (hne : ∀ a, ao' = some a → a.block ≠ m) :
    Mir (w'.setCell ⟨m, 1 + t, none⟩ (.slice ao' l'.length cap')) n₀ size m (upd aos t ao') (upd caps t cap') ⟨upd st.L t l', st.lost⟩ := by
  have hk : Keeps (fun i => i = m) w' (w'.setCell ⟨m, 1 + t, none⟩ (.slice ao' l'.length cap')) := (Keeps.refl (fun i => i = m) w').setCell (p := ⟨m, 1 + t, none⟩) (fun _ => rfl) _
  refine ⟨?_, h.ge, ?_⟩
  · rw [heap_setCell_same w' m (1 + t) _ _ _ h.block]
    rcases t with _ | _ | t
    · rfl
    · rfl
    · omega
  · intro s hs
    by_cases e : s = t
    · subst e
      simp only [upd_same]
      exact hk.row hr (fun i hi e => by
        obtain ⟨a, ha, e2⟩ := own_block hi
        exact hne a ha (e2.symm.trans e))
    · simp only [upd_other _ _ _ _ e]
      exact hk.row (h.row s hs) (fun i hi e => by
        obtain ⟨a, ha, e2⟩ := own_block hi
        exact h.not_m hs ha (e2.symm.trans e))

theorem Mir.count (h : Mir w n₀ size m aos caps st) (k : Nat) : Mir (w.setCell ⟨m, 3, none⟩ (.int .i64 k)) n₀ size m aos caps ⟨st.L, k⟩ := by
  have hk : Keeps (fun i => i = m) w (w.setCell ⟨m, 3, none⟩ (.int .i64 k)) := (Keeps.refl (fun i => i = m) w).setCell (p := ⟨m, 3, none⟩) (fun _ => rfl) _
  refine ⟨?_, h.ge, ?_⟩
  · rw [heap_setCell_same w m 3 _ _ _ h.block]
    rfl
  · intro s hs
    exact hk.row (h.row s hs) (fun i hi e => by
      obtain ⟨a, ha, e2⟩ := own_block hi
      exact h.not_m hs ha (e2.symm.trans e))
end

/-- the document's cable behind a call. -/
structure LeftM (n₀ size m : Nat) (aos : Nat → Option Addr) (st' : St) (w w' : World) : Prop where
  ex : ∃ aos' caps', Mir w' n₀ size m aos' caps' st' ∧ Nears aos aos' w.heap.size
  keeps : Keeps (fun i => i = m) w w'

theorem LeftM.same {n₀ size m : Nat} {aos : Nat → Option Addr} {caps : Nat → Nat} {st : St} {w w' : World} (h : Mir w n₀ size m aos caps st) (k : Below w.heap.size w w') : LeftM n₀ size m aos st w w' :=
  ⟨⟨aos, caps, h.old k, Nears.refl _ _⟩, Keeps.ofOld k _⟩
theorem LeftM.congr {n₀ size m : Nat} {aos : Nat → Option Addr} {st st' : St} {w w' : World} (h : LeftM n₀ size m aos st w w') (hL : ∀ t, t < 2 → st.L t = st'.L t) (hl : st.lost = st'.lost) : LeftM n₀ size m aos st' w w' := by
  obtain ⟨⟨aos', caps', hc, hn⟩, hk⟩ := h
  exact ⟨⟨aos', caps', hc.congr hL hl, hn⟩, hk⟩
/-- a list in new memory is stored. -/
theorem LeftM.stored {n₀ size m : Nat} {aos : Nat → Option Addr} {caps : Nat → Nat} {st : St} {w w2 : World} {t n : Nat} (h : Mir w n₀ size m aos caps st) (ht : t < 2) (hn : n₀ ≤ w.heap.size) (hB : Below w.heap.size w w2) {ao' : Option Addr} {cap' : Nat} {xs : List Value} {l' : List ByteArray} (hr : w2.ownsRow w.heap.size 9 1 (.slice ao' n cap') n xs) (e1 : n = l'.length) (e2 : xs = strs l') :
    LeftM n₀ size m aos ⟨upd st.L t l', st.lost⟩ w (w2.setCell ⟨m, 1 + t, none⟩ (.slice ao' n cap')) := by
  subst e1
  subst e2
  have hge : ∀ a, ao' = some a → w.heap.size ≤ a.block := fun a ha => (hr.lt a.block (by rw [ha]; rfl)).1
  have hr' : w2.ownsRow n₀ 9 1 (.slice ao' l'.length cap') l'.length (strs l') := by
    refine ⟨hr.1, ?_⟩
    rcases hr.2 with h1 | ⟨g, c, cur, h1, h2, r⟩
    · exact .inl h1
    · exact .inr ⟨g, c, cur, h1, by omega, r⟩
  have hlt := h.lt
  refine ⟨⟨_, _, (h.old hB).step ht hr' (fun a ha e => by have := hge a ha; omega), ?_⟩, (Keeps.ofOld hB (fun i => i = m)).setCell (p := ⟨m, 1 + t, none⟩) (fun _ => rfl) _⟩
  intro s hs
  by_cases e : s = t
  · subst e
    rw [upd_same]
    exact fun a ha => .inr (hge a ha)
  · rw [upd_other _ _ _ _ e]; exact Near.refl _ _

theorem rcopy_no (dd i : Int) (m : Nat) (w : World) (h : inB 2 dd = false) :
    Calls Try.prog 20 #[.pointer (some ⟨m, 0, none⟩), .int .i64 dd, .int .i64 i] w fun e w' => e = .returned (.tuple #[.string ⟨#[]⟩, .bool false]) ∧ w = w' := by
  rcases in_not h with h0 | h0
  · clear h
    go_enter Try.func20, Try.ntmps20
    go_wp2_with fail
    go_ret2
    exact ⟨rfl, rfl⟩
  · clear h
    have h1 : (1 : Int) < dd := by omega
    have h2 : ¬ dd < 0 := by omega
    clear h0
    go_enter Try.func20, Try.ntmps20
    go_wp2_with fail
    go_ret2
    exact ⟨rfl, rfl⟩

theorem rcopy_in (t : Nat) (i : Int) (w : World) (n₀ size m : Nat) (aos : Nat → Option Addr) (caps : Nat → Nat) (st : St) (h : Mir w n₀ size m aos caps st) (ht : t < 2) :
    Calls Try.prog 20 #[.pointer (some ⟨m, 0, none⟩), .int .i64 t, .int .i64 i] w fun e w' => e = .returned (.tuple #[.string (atS (st.L t) i), .bool (inB (st.L t).length i)]) ∧ w = w' := by
  have c1 := h.cell ht
  have i0 : ¬ (t : Int) < 0 := by omega
  have i1 : ¬ (1 : Int) < (t : Int) := by omega
  by_cases h0 : i < 0
  · rw [atS_no (in_neg h0), in_neg h0]
    clear c1
    go_enter Try.func20, Try.ntmps20
    go_wp2_with fail
    go_ret2
    exact ⟨rfl, rfl⟩
  · by_cases h1 : ((st.L t).length : Int) ≤ i
    · rw [atS_no (in_far h1), in_far h1]
      go_enter Try.func20, Try.ntmps20
      go_wp2_with fail
      go_ret2
      exact ⟨rfl, rfl⟩
    · obtain ⟨k, rfl⟩ := Int.eq_ofNat_of_zero_le (show 0 ≤ i by omega)
      have hk : k < (st.L t).length := by omega
      rw [atS_in hk, in_in hk]
      obtain ⟨g, hg, hc⟩ := srow_cell (h.row t ht) k hk
      rw [hg] at c1
      generalize (st.L t)[k]?.getD ⟨#[]⟩ = y at hc ⊢
      clear hg
      go_enter Try.func20, Try.ntmps20
      go_wp2_with fail
      go_ret2
      exact ⟨rfl, rfl⟩

theorem rcopy_c (dd i : Int) (w : World) (n₀ size m : Nat) (aos : Nat → Option Addr) (caps : Nat → Nat) (st : St) (h : Mir w n₀ size m aos caps st) :
    Calls Try.prog 20 #[.pointer (some ⟨m, 0, none⟩), .int .i64 dd, .int .i64 i] w fun e w' => e = .returned (.tuple #[.string (atS (flyL st.L dd) i), .bool (inB (flyL st.L dd).length i)]) ∧ w = w' := by
  by_cases hB : inB 2 dd = true
  · obtain ⟨t, rfl, ht⟩ := in_of hB
    rw [fly_in _ ht]
    exact rcopy_in t i w n₀ size m aos caps st h ht
  · have hB' : inB 2 dd = false := by simpa using hB
    rw [fly_no _ hB', show ([] : List ByteArray).length = 0 from rfl, in_zero, atS_no (by rw [show ([] : List ByteArray).length = 0 from rfl, in_zero])]
    exact rcopy_no dd i m w hB'

end Go.Proofs.Ytfifoikphhjomaa.Cb
