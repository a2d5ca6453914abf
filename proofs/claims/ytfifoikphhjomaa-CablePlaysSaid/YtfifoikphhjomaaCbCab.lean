/- A cable in memory: a struct of two rings and a count; what its calls make of it. Facts on memory, no walks. -/
import Derived.Test.YtfifoikphhjomaaCbRing
import Derived.Test.YtfifoikphhjomaaCbClone
namespace Go.Proofs.Ytfifoikphhjomaa.Cb
open Go.RowKit Go.Proofs.Ytfifoikphhjomaa.Rg
set_option linter.unusedVariables false

/-- a function, another at t. -/
def upd {α : Type} (f : Nat → α) (t : Nat) (x : α) (s : Nat) : α := if s = t then x else f s
theorem upd_same {α : Type} (f : Nat → α) (t : Nat) (x : α) : upd f t x t = x := by simp [upd]
theorem upd_other {α : Type} (f : Nat → α) (t s : Nat) (x : α) (h : s ≠ t) : upd f t x s = f s := by simp [upd, h]

/-- what flies to each end, and how many were lost. -/
structure St where
  L : Nat → List ByteArray
  lost : Nat

/-- what flies to an end, however it is named. -/
def flyL (L : Nat → List ByteArray) (dd : Int) : List ByteArray := if inB 2 dd = true then L dd.toNat else []
def takeF (L : Nat → List ByteArray) (dd i : Int) : Nat → List ByteArray := if inB (flyL L dd).length i = true then upd L dd.toNat (offL (L dd.toNat) i) else L
theorem fly_in (L : Nat → List ByteArray) {t : Nat} (h : t < 2) : flyL L (t : Int) = L t := by simp [flyL, in_in h]
theorem fly_no (L : Nat → List ByteArray) {dd : Int} (h : inB 2 dd = false) : flyL L dd = [] := by simp [flyL, h]
theorem in_zero (i : Int) : inB 0 i = false := by
  by_cases h : i < 0
  · exact in_neg h
  · exact in_far (by omega)

/-- what Send answers, and leaves. -/
def sendE (dd : Int) (s : ByteArray) : Int := if inB 2 dd = false ∨ s.size = 0 then 1 else if 256 < s.size then 5 else 0
def sendB (size : Nat) (st : St) (dd : Int) (s : ByteArray) : Bool := decide (sendE dd s = 0) && decide ((flyL st.L dd).length < size)
def sendSt (size : Nat) (st : St) (dd : Int) (s : ByteArray) : St :=
  if sendE dd s = 0 then (if (flyL st.L dd).length < size then ⟨upd st.L dd.toNat (st.L dd.toNat ++ [s]), st.lost⟩ else ⟨st.L, st.lost + 1⟩) else st
def takeSt (st : St) (dd i : Int) : St := ⟨takeF st.L dd i, st.lost⟩
def dropSt (st : St) (dd i : Int) : St := if inB (flyL st.L dd).length i = true then ⟨takeF st.L dd i, st.lost + 1⟩ else st
def cutSt (st : St) : St := ⟨fun _ => [], st.lost + ((st.L 0).length + (st.L 1).length)⟩

structure Cab (w : World) (n₀ size b : Nat) (bs : Nat → Nat) (aos : Nat → Option Addr) (caps : Nat → Nat) (st : St) : Prop where
  block : w.heap[b]? = some (.cells #[.pointer (some ⟨bs 0, 0, none⟩), .pointer (some ⟨bs 1, 0, none⟩), .int .i64 st.lost] 49 (0, 0))
  ge : n₀ ≤ b
  ring : ∀ t, t < 2 → SRing w n₀ (bs t) size (aos t) (caps t) (st.L t)
  apart : ∀ t s, t < 2 → s < 2 → t ≠ s → ∀ i, Foot (bs t) (aos t) i → ¬ Foot (bs s) (aos s) i

/-- the blocks that a cable's calls may write. -/
def CFoot (b : Nat) (bs : Nat → Nat) (aos : Nat → Option Addr) (i : Nat) : Prop := i = b ∨ ∃ t, t < 2 ∧ Foot (bs t) (aos t) i
/-- its lists lie where they lay, or in new blocks. -/
def Nears (aos aos' : Nat → Option Addr) (N : Nat) : Prop := ∀ t, t < 2 → Near (aos t) (aos' t) N
theorem Nears.refl (aos : Nat → Option Addr) (N : Nat) : Nears aos aos N := fun t _ => Near.refl _ _
theorem Nears.trans {x y z : Nat → Option Addr} {N M : Nat} (h : Nears x y N) (k : Nears y z M) (hm : N ≤ M) : Nears x z N := fun t ht => (h t ht).trans (k t ht) hm
theorem Nears.foot {b : Nat} {bs : Nat → Nat} {aos aos' : Nat → Option Addr} {N : Nat} (h : Nears aos aos' N) {i : Nat} (hi : CFoot b bs aos' i) : CFoot b bs aos i ∨ N ≤ i := by
  rcases hi with rfl | ⟨t, ht, rfl | ⟨a, ha, rfl⟩⟩
  · exact .inl (.inl rfl)
  · exact .inl (.inr ⟨t, ht, .inl rfl⟩)
  · rcases h t ht a ha with ⟨c, hc, e⟩ | h1
    · exact .inl (.inr ⟨t, ht, .inr ⟨c, hc, e.symm⟩⟩)
    · exact .inr h1

section
variable {w w' : World} {n₀ size b : Nat} {bs : Nat → Nat} {aos : Nat → Option Addr} {caps : Nat → Nat} {st : St}

theorem Cab.lt (h : Cab w n₀ size b bs aos caps st) : b < w.heap.size := (Array.getElem?_eq_some_iff.1 h.block).1
theorem Cab.cell (h : Cab w n₀ size b bs aos caps st) {t : Nat} (ht : t < 2) : w.cell? ⟨b, t, none⟩ = some (.pointer (some ⟨bs t, 0, none⟩)) := by
  rw [cell_of_row w b t _ _ _ h.block]
  rcases t with _ | _ | t
  · rfl
  · rfl
  · omega
theorem Cab.cell2 (h : Cab w n₀ size b bs aos caps st) : w.cell? ⟨b, 2, none⟩ = some (.int .i64 st.lost) := by
  rw [cell_of_row w b 2 _ _ _ h.block]; rfl
theorem Cab.frozen (h : Cab w n₀ size b bs aos caps st) (j : Nat) : w.frozen? ⟨b, j, none⟩ = false := frozen_of_row w b j _ _ h.block
/-- the blocks of its rings are of other types. -/
theorem Cab.kinds (h : Cab w n₀ size b bs aos caps st) {t : Nat} (ht : t < 2) {i : Nat} (hi : Foot (bs t) (aos t) i) : ∃ cs, w.heap[i]? = some (.cells cs 61 (0, 0)) ∨ w.heap[i]? = some (.cells cs 9 (0, 0)) := by
  have hr := h.ring t ht
  rcases hi with rfl | ⟨a, ha, rfl⟩
  · exact ⟨_, .inl hr.block⟩
  · rcases hr.form with ⟨h4, _⟩ | ⟨g, cur, h4, _, hg, _⟩
    · rw [h4] at ha; cases ha
    · rw [h4] at ha; cases ha
      exact ⟨cur, .inr hg⟩
theorem Cab.kind (h : Cab w n₀ size b bs aos caps st) {i : Nat} (hi : CFoot b bs aos i) : ∃ cs t, w.heap[i]? = some (.cells cs t (0, 0)) ∧ (t = 49 ∨ t = 61 ∨ t = 9) := by
  rcases hi with rfl | ⟨t, ht, hi⟩
  · exact ⟨_, _, h.block, .inl rfl⟩
  · obtain ⟨cs, h1 | h1⟩ := h.kinds ht hi
    · exact ⟨_, _, h1, .inr (.inl rfl)⟩
    · exact ⟨_, _, h1, .inr (.inr rfl)⟩
theorem Cab.not_b (h : Cab w n₀ size b bs aos caps st) {t : Nat} (ht : t < 2) : ¬ Foot (bs t) (aos t) b := by
  intro hi
  obtain ⟨cs, h1 | h1⟩ := h.kinds ht hi
  · have := h.block.symm.trans h1; simp at this
  · have := h.block.symm.trans h1; simp at this
theorem Cab.footGe (h : Cab w n₀ size b bs aos caps st) : ∀ i, CFoot b bs aos i → n₀ ≤ i := by
  rintro i (rfl | ⟨t, ht, hi⟩)
  · exact h.ge
  · exact (h.ring t ht).footGe i hi
theorem Cab.footLt (h : Cab w n₀ size b bs aos caps st) : ∀ i, CFoot b bs aos i → i < w.heap.size := by
  rintro i (rfl | ⟨t, ht, hi⟩)
  · exact h.lt
  · exact (h.ring t ht).footLt i hi
theorem Cab.keeps {S : Nat → Prop} (h : Cab w n₀ size b bs aos caps st) (k : Keeps S w w') (hs : ∀ i, CFoot b bs aos i → ¬ S i) : Cab w' n₀ size b bs aos caps st :=
  ⟨(k.block b h.lt (hs b (.inl rfl))).trans h.block, h.ge, fun t ht => (h.ring t ht).keeps k (fun i hi => hs i (.inr ⟨t, ht, hi⟩)), h.apart⟩
theorem Cab.old (h : Cab w n₀ size b bs aos caps st) (k : Below w.heap.size w w') : Cab w' n₀ size b bs aos caps st := h.keeps (Keeps.ofOld k (fun _ => False)) (fun _ _ e => e)
theorem Cab.drewN (h : Cab w n₀ size b bs aos caps st) (q : Nat) : Cab (w.drewN q) n₀ size b bs aos caps st := h.old ⟨rfl, rfl, rfl, Nat.le_refl _, fun _ _ => rfl⟩
theorem Cab.congr {L' : Nat → List ByteArray} {lost : Nat} (h : Cab w n₀ size b bs aos caps st) (hL : ∀ t, t < 2 → st.L t = L' t) (hl : st.lost = lost) : Cab w n₀ size b bs aos caps ⟨L', lost⟩ :=
  ⟨by rw [← hl]; exact h.block, h.ge, fun t ht => by show SRing _ _ _ _ _ _ (L' t); rw [← hL t ht]; exact h.ring t ht, h.apart⟩

/-- the ring of one end was changed. -/
theorem Cab.step (h : Cab w n₀ size b bs aos caps st) {t : Nat} (ht : t < 2) {ao' : Option Addr} {cap' : Nat} {l' : List ByteArray} (hr : SRing w' n₀ (bs t) size ao' cap' l') (hn : Near (aos t) ao' w.heap.size) (hk : Keeps (Foot (bs t) (aos t)) w w') :
    Cab w' n₀ size b bs (upd aos t ao') (upd caps t cap') ⟨upd st.L t l', st.lost⟩ ∧ Nears aos (upd aos t ao') w.heap.size ∧ Keeps (CFoot b bs aos) w w' := by
  have hB : w'.heap[b]? = w.heap[b]? := hk.block b h.lt (h.not_b ht)
  have hnear : Nears aos (upd aos t ao') w.heap.size := by
    intro s hs
    by_cases e : s = t
    · subst e; rw [upd_same]; exact hn
    · rw [upd_other _ _ _ _ e]; exact Near.refl _ _
  have hap : ∀ s, s < 2 → t ≠ s → ∀ i, Foot (bs t) ao' i → ¬ Foot (bs s) (aos s) i := by
    intro s hs hne i hi hf
    rcases hi with rfl | ⟨a, ha, rfl⟩
    · exact h.apart t s ht hs hne _ (.inl rfl) hf
    · rcases hn a ha with ⟨c, hc, e⟩ | h1
      · exact h.apart t s ht hs hne _ (.inr ⟨c, hc, e.symm⟩) hf
      · have := (h.ring s hs).footLt _ hf; omega
  refine ⟨⟨hB.trans h.block, h.ge, ?_, ?_⟩, hnear, hk.mono (fun i _ hi => .inr ⟨t, ht, hi⟩)⟩
  · intro s hs
    by_cases e : s = t
    · subst e
      simp only [upd_same]
      exact hr
    · simp only [upd_other _ _ _ _ e]
      exact (h.ring s hs).keeps hk (fun i hi hf => h.apart s t hs ht e i hi hf)
  · intro x y hx hy hne i hi hj
    by_cases e : x = t
    · subst e
      rw [upd_same] at hi
      rw [upd_other _ _ _ _ (Ne.symm hne)] at hj
      exact hap y hy hne i hi hj
    · rw [upd_other _ _ _ _ e] at hi
      by_cases e2 : y = t
      · subst e2
        rw [upd_same] at hj
        exact hap x hx (Ne.symm hne) i hj hi
      · rw [upd_other _ _ _ _ e2] at hj
        exact h.apart x y hx hy hne i hi hj

/-- the count was stored. -/
theorem Cab.count (h : Cab w n₀ size b bs aos caps st) (m : Nat) : Cab (w.setCell ⟨b, 2, none⟩ (.int .i64 m)) n₀ size b bs aos caps ⟨st.L, m⟩ ∧ Keeps (CFoot b bs aos) w (w.setCell ⟨b, 2, none⟩ (.int .i64 m)) := by
  have hk : Keeps (fun i => i = b) w (w.setCell ⟨b, 2, none⟩ (.int .i64 m)) := (Keeps.refl (fun i => i = b) w).setCell (p := ⟨b, 2, none⟩) (fun _ => rfl) _
  refine ⟨⟨?_, h.ge, ?_, h.apart⟩, hk.mono (fun i _ e => .inl e)⟩
  · have := heap_setCell_same w b 2 _ _ (.int .i64 m) h.block
    rw [this]
    rfl
  · intro t ht
    exact (h.ring t ht).keeps hk (fun i hi e => by subst e; exact h.not_b ht hi)
end

/-- a cable, wherever its parts lie. -/
structure Left (n₀ size b : Nat) (bs : Nat → Nat) (aos : Nat → Option Addr) (st' : St) (w w' : World) : Prop where
  ex : ∃ aos' caps', Cab w' n₀ size b bs aos' caps' st' ∧ Nears aos aos' w.heap.size
  keeps : Keeps (CFoot b bs aos) w w'

theorem Left.same {n₀ size b : Nat} {bs : Nat → Nat} {aos : Nat → Option Addr} {caps : Nat → Nat} {st : St} {w w' : World} (h : Cab w n₀ size b bs aos caps st) (k : Below w.heap.size w w') : Left n₀ size b bs aos st w w' :=
  ⟨⟨aos, caps, h.old k, Nears.refl _ _⟩, Keeps.ofOld k _⟩
theorem Left.trans {n₀ size b : Nat} {bs : Nat → Nat} {aos aos1 : Nat → Option Addr} {st' : St} {a w w' : World} (hn : Nears aos aos1 a.heap.size) (hk : Keeps (CFoot b bs aos) a w) (h : Left n₀ size b bs aos1 st' w w') : Left n₀ size b bs aos st' a w' := by
  obtain ⟨aos', caps', hc, hn'⟩ := h.ex
  refine ⟨⟨aos', caps', hc, hn.trans hn' hk.size⟩, hk.trans h.keeps ?_⟩
  intro i hi hf
  rcases hn.foot hf with h1 | h1
  · exact h1
  · omega

end Go.Proofs.Ytfifoikphhjomaa.Cb
