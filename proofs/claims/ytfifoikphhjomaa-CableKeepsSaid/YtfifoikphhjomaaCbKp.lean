/- A cable, and what was sent to each end: what each call leaves of both, and of all other blocks. -/
import Derived.Test.YtfifoikphhjomaaCbActs
namespace Go.Proofs.Ytfifoikphhjomaa.Cb
open Go.RowKit Go.Proofs.Ytfifoikphhjomaa.Rg
set_option linter.unusedVariables false
set_option linter.unusedSimpArgs false

/-- two lists of strings in one block: what was sent. -/
structure Sen (w : World) (n₀ sb : Nat) (aos : Nat → Option Addr) (caps : Nat → Nat) (S : Nat → List ByteArray) : Prop where
  block : w.heap[sb]? = some (.cells #[.slice (aos 0) (S 0).length (caps 0), .slice (aos 1) (S 1).length (caps 1)] 30 (0, 0))
  ge : n₀ ≤ sb
  row : ∀ t, t < 2 → w.ownsRow n₀ 9 1 (.slice (aos t) (S t).length (caps t)) (S t).length (strs (S t))
  apart : ∀ t s, t < 2 → s < 2 → t ≠ s → ∀ a a', aos t = some a → aos s = some a' → a.block ≠ a'.block

section
variable {w w' : World} {n₀ sb : Nat} {aos : Nat → Option Addr} {caps : Nat → Nat} {S : Nat → List ByteArray}

theorem Sen.lt (h : Sen w n₀ sb aos caps S) : sb < w.heap.size := (Array.getElem?_eq_some_iff.1 h.block).1
theorem Sen.cell (h : Sen w n₀ sb aos caps S) {t : Nat} (ht : t < 2) : w.cell? ⟨sb, t, none⟩ = some (.slice (aos t) (S t).length (caps t)) := by
  rw [cell_of_row w sb t _ _ _ h.block]
  rcases t with _ | _ | t
  · rfl
  · rfl
  · omega
theorem Sen.frozen (h : Sen w n₀ sb aos caps S) (j : Nat) : w.frozen? ⟨sb, j, none⟩ = false := frozen_of_row w sb j _ _ h.block
theorem Sen.form (h : Sen w n₀ sb aos caps S) {t : Nat} (ht : t < 2) {a : Addr} (ha : aos t = some a) : n₀ ≤ a.block ∧ ∃ cur, w.heap[a.block]? = some (.cells cur 9 (0, 0)) := by
  rcases (h.row t ht).2 with ⟨h1, _⟩ | ⟨g, cap', cur, h1, hb, hg, _⟩
  · simp at h1; rw [h1.1] at ha; cases ha
  · simp at h1; rw [h1.1] at ha; cases ha
    exact ⟨hb, cur, hg⟩
theorem Sen.kind (h : Sen w n₀ sb aos caps S) {i : Nat} (hi : MFoot sb aos i) : ∃ cs t, w.heap[i]? = some (.cells cs t (0, 0)) ∧ (t = 30 ∨ t = 9) := by
  rcases hi with rfl | ⟨t, ht, a, ha, rfl⟩
  · exact ⟨_, _, h.block, .inl rfl⟩
  · obtain ⟨_, cur, hg⟩ := h.form ht ha
    exact ⟨cur, _, hg, .inr rfl⟩
theorem Sen.footGe (h : Sen w n₀ sb aos caps S) : ∀ i, MFoot sb aos i → n₀ ≤ i := by
  rintro i (rfl | ⟨t, ht, a, ha, rfl⟩)
  · exact h.ge
  · exact (h.form ht ha).1
theorem Sen.footLt (h : Sen w n₀ sb aos caps S) : ∀ i, MFoot sb aos i → i < w.heap.size := by
  intro i hi
  obtain ⟨cs, t, hh, _⟩ := h.kind hi
  exact (Array.getElem?_eq_some_iff.1 hh).1
theorem Sen.not_sb (h : Sen w n₀ sb aos caps S) {t : Nat} (ht : t < 2) {a : Addr} (ha : aos t = some a) : a.block ≠ sb := by
  intro e
  obtain ⟨_, cur, hg⟩ := h.form ht ha
  rw [e] at hg
  have := h.block.symm.trans hg
  simp at this
theorem Sen.keeps {F : Nat → Prop} (h : Sen w n₀ sb aos caps S) (k : Keeps F w w') (hs : ∀ i, MFoot sb aos i → ¬ F i) : Sen w' n₀ sb aos caps S :=
  ⟨(k.block sb h.lt (hs sb (.inl rfl))).trans h.block, h.ge, fun t ht => k.row (h.row t ht) (fun i hi => by
    obtain ⟨a, ha, rfl⟩ := own_block hi
    exact hs _ (.inr ⟨t, ht, a, ha, rfl⟩)), h.apart⟩
theorem Sen.old (h : Sen w n₀ sb aos caps S) (k : Below w.heap.size w w') : Sen w' n₀ sb aos caps S := h.keeps (Keeps.ofOld k (fun _ => False)) (fun _ _ e => e)

/-- one more was sent: its list grew (w2), and is stored. -/
theorem Sen.more {w2 : World} (h : Sen w n₀ sb aos caps S) {t : Nat} (ht : t < 2) {ao' : Option Addr} {cap' n : Nat} {xs : List Value} {l' : List ByteArray} (hr : w2.ownsRow n₀ 9 1 (.slice ao' n cap') n xs) (e1 : n = l'.length) (e2 : xs = strs l')
    (hg : w.grownBy w2 (Value.ownBlock (.slice (aos t) (S t).length (caps t)))) (hat : Value.ownBlock (.slice ao' n cap') = Value.ownBlock (.slice (aos t) (S t).length (caps t)) ∨ Value.ownBlock (.slice ao' n cap') = some w.heap.size) :
    Sen (w2.setCell ⟨sb, t, none⟩ (.slice ao' n cap')) n₀ sb (upd aos t ao') (upd caps t cap') (upd S t l') ∧ Nears aos (upd aos t ao') w.heap.size ∧ Keeps (MFoot sb aos) w (w2.setCell ⟨sb, t, none⟩ (.slice ao' n cap')) := by
  subst e1
  subst e2
  have hnear : Near (aos t) ao' w.heap.size := by
    intro a' ha'
    subst ha'
    rcases hat with h1 | h1
    · obtain ⟨a, ha, e⟩ := own_block h1.symm
      exact .inl ⟨a, ha, e.symm⟩
    · refine .inr ?_
      simp [Value.ownBlock] at h1
      omega
  have hnears : Nears aos (upd aos t ao') w.heap.size := by
    intro s hs
    by_cases e : s = t
    · subst e; rw [upd_same]; exact hnear
    · rw [upd_other _ _ _ _ e]; exact Near.refl _ _
  have hk1 : Keeps (fun i => ∃ a, aos t = some a ∧ i = a.block) w w2 := (Keeps.refl _ w).grown hg (fun i hi _ => own_block hi)
  have hB : w2.heap[sb]? = w.heap[sb]? := hk1.block sb h.lt (fun ⟨a, ha, e⟩ => h.not_sb ht ha e.symm)
  have hk2 : Keeps (fun i => i = sb) w2 (w2.setCell ⟨sb, t, none⟩ (.slice ao' l'.length cap')) := (Keeps.refl (fun i => i = sb) w2).setCell (p := ⟨sb, t, none⟩) (fun _ => rfl) _
  have hsb : ∀ a, ao' = some a → a.block ≠ sb := by
    intro a ha e
    rcases hnear a ha with ⟨c, hc, e2⟩ | h1
    · exact h.not_sb ht hc (e2.trans e)
    · have := h.lt; omega
  have hap : ∀ s, s < 2 → t ≠ s → ∀ a a', ao' = some a → aos s = some a' → a.block ≠ a'.block := by
    intro s hs hne a a' ha ha' e
    rcases hnear a ha with ⟨c, hc, e2⟩ | h1
    · exact h.apart t s ht hs hne c a' hc ha' (e2.trans e)
    · have := h.footLt a'.block (.inr ⟨s, hs, a', ha', rfl⟩); omega
  refine ⟨⟨?_, h.ge, ?_, ?_⟩, hnears, (hk1.mono (fun i _ ⟨a, ha, e⟩ => .inr ⟨t, ht, a, ha, e⟩)).trans hk2 (fun i _ e => .inl e)⟩
  · rw [heap_setCell_same w2 sb t _ _ _ (hB.trans h.block)]
    rcases t with _ | _ | t
    · rfl
    · rfl
    · omega
  · intro s hs
    by_cases e : s = t
    · subst e
      simp only [upd_same]
      exact hk2.row hr (fun i hi e => by
        obtain ⟨a, ha, e2⟩ := own_block hi
        exact hsb a ha (e2.symm.trans e))
    · simp only [upd_other _ _ _ _ e]
      refine hk2.row (hk1.row (h.row s hs) ?_) ?_
      · rintro i hi ⟨a, ha, rfl⟩
        obtain ⟨a', ha', e2⟩ := own_block hi
        exact h.apart t s ht hs (Ne.symm e) a a' ha ha' e2
      · intro i hi e3
        obtain ⟨a', ha', e2⟩ := own_block hi
        exact h.not_sb hs ha' (e2.symm.trans e3)
  · intro x y hx hy hne a a' ha ha'
    by_cases e : x = t
    · subst e
      rw [upd_same] at ha
      rw [upd_other _ _ _ _ (Ne.symm hne)] at ha'
      exact hap y hy hne a a' ha ha'
    · rw [upd_other _ _ _ _ e] at ha
      by_cases e2 : y = t
      · subst e2
        rw [upd_same] at ha'
        exact (hap x hx (Ne.symm hne) a' a ha' ha).symm
      · rw [upd_other _ _ _ _ e2] at ha'
        exact h.apart x y hx hy hne a a' ha ha'
end

/-- the cable, and what was sent; nothing that lay ahead of them has turned. -/
structure Kp (w₀ w : World) (b sb size : Nat) (st : St) (S : Nat → List ByteArray) : Prop where
  ex : ∃ bs aos caps aom capm, Cab w w₀.heap.size size b bs aos caps st ∧ Sen w w₀.heap.size sb aom capm S ∧ (∀ i, CFoot b bs aos i → ¬ MFoot sb aom i)
  old : Below w₀.heap.size w₀ w

section
variable {w₀ w w' : World} {b sb size : Nat} {st st' : St} {S : Nat → List ByteArray}

theorem Kp.keep (h : Kp w₀ w b sb size st S) (hb : Below w.heap.size w w') : Kp w₀ w' b sb size st S := by
  obtain ⟨bs, aos, caps, aom, capm, h1, h2, h3⟩ := h.ex
  exact ⟨⟨bs, aos, caps, aom, capm, h1.old hb, h2.old hb, h3⟩, h.old.trans (hb.mono h.old.size)⟩
theorem Kp.drewN (h : Kp w₀ w b sb size st S) (q : Nat) : Kp w₀ (w.drewN q) b sb size st S := h.keep ⟨rfl, rfl, rfl, Nat.le_refl _, fun _ _ => rfl⟩
/-- the cable was changed. -/
theorem kp_step {bs : Nat → Nat} {aos : Nat → Option Addr} {caps : Nat → Nat} {aom : Nat → Option Addr} {capm : Nat → Nat} (ho : Below w₀.heap.size w₀ w) (h1 : Cab w w₀.heap.size size b bs aos caps st) (h2 : Sen w w₀.heap.size sb aom capm S) (h3 : ∀ i, CFoot b bs aos i → ¬ MFoot sb aom i)
    (hl : Left w₀.heap.size size b bs aos st' w w') : Kp w₀ w' b sb size st' S ∧ Others w w' := by
  obtain ⟨⟨aos', caps', hc, hn⟩, hk⟩ := hl
  refine ⟨⟨⟨bs, aos', caps', aom, capm, hc, h2.keeps hk (fun i hi hf => h3 i hf hi), ?_⟩, ho.trans (hk.below ho.size h1.footGe)⟩, Others.keeps hk ?_⟩
  · intro i hi hm
    rcases hn.foot hi with h4 | h4
    · exact h3 i h4 hm
    · have := h2.footLt i hm; omega
  · intro i hi
    obtain ⟨cs, t, e1, e2⟩ := h1.kind hi
    exact ⟨cs, t, e1, by rcases e2 with rfl | rfl | rfl <;> decide⟩
/-- one more was sent. -/
theorem kp_more {bs : Nat → Nat} {aos : Nat → Option Addr} {caps : Nat → Nat} {aom : Nat → Option Addr} {capm : Nat → Nat} {w2 : World} (ho : Below w₀.heap.size w₀ w) (h1 : Cab w w₀.heap.size size b bs aos caps st) (h2 : Sen w w₀.heap.size sb aom capm S) (h3 : ∀ i, CFoot b bs aos i → ¬ MFoot sb aom i)
    {t : Nat} (ht : t < 2) {ao' : Option Addr} {cap' n : Nat} {xs : List Value} {l' : List ByteArray} (hr : w2.ownsRow w₀.heap.size 9 1 (.slice ao' n cap') n xs) (e1 : n = l'.length) (e2 : xs = strs l')
    (hg : w.grownBy w2 (Value.ownBlock (.slice (aom t) (S t).length (capm t)))) (hat : Value.ownBlock (.slice ao' n cap') = Value.ownBlock (.slice (aom t) (S t).length (capm t)) ∨ Value.ownBlock (.slice ao' n cap') = some w.heap.size) :
    Kp w₀ (w2.setCell ⟨sb, t, none⟩ (.slice ao' n cap')) b sb size st (upd S t l') := by
  obtain ⟨h4, hn, hk⟩ := h2.more ht hr e1 e2 hg hat
  refine ⟨⟨bs, aos, caps, _, _, h1.keeps hk (fun i hi hf => h3 i hi hf), h4, ?_⟩, ho.trans (hk.below ho.size h2.footGe)⟩
  rintro i hi (rfl | ⟨s, hs, a, ha, rfl⟩)
  · exact h3 _ hi (.inl rfl)
  · rcases hn s hs a ha with ⟨c, hc', e⟩ | h5
    · exact h3 _ hi (.inr ⟨s, hs, c, hc', e.symm⟩)
    · have := h1.footLt _ hi; omega
end

section
variable (w₀ w : World) (b sb size : Nat) (st : St) (S : Nat → List ByteArray)

theorem send_kp (dd : Int) (s : ByteArray) (h : Kp w₀ w b sb size st S) (ok : Ok size st) (hs : size ≤ 64) (hl : st.lost ≤ 100000) :
    Calls Try.prog 11 #[.pointer (some ⟨b, 0, none⟩), .int .i64 dd, .string s] w fun e w' => e = .returned (.tuple #[.bool (sendB size st dd s), .int .i64 (sendE dd s)]) ∧ Kp w₀ w' b sb size (sendSt size st dd s) S ∧ Others w w' := by
  obtain ⟨bs, aos, caps, aom, capm, h1, h2, h3⟩ := h.ex
  refine (csend_c dd s w _ size b bs aos caps st h1 (by omega) ok.len (by omega) h.old.size).mono ?_
  rintro e w' ⟨rfl, hL⟩
  exact ⟨rfl, kp_step h.old h1 h2 h3 hL⟩
theorem take_kp (dd i : Int) (h : Kp w₀ w b sb size st S) (ok : Ok size st) (hs : size ≤ 64) :
    Calls Try.prog 12 #[.pointer (some ⟨b, 0, none⟩), .int .i64 dd, .int .i64 i] w fun e w' => e = .returned (.tuple #[.string (atS (flyL st.L dd) i), .bool (inB (flyL st.L dd).length i)]) ∧ Kp w₀ w' b sb size (takeSt st dd i) S ∧ Others w w' := by
  obtain ⟨bs, aos, caps, aom, capm, h1, h2, h3⟩ := h.ex
  refine (ctake_c dd i w _ size b bs aos caps st h1 (fun t ht => Nat.le_trans (ok.len t ht) (by omega))).mono ?_
  rintro e w' ⟨rfl, hL⟩
  exact ⟨rfl, kp_step h.old h1 h2 h3 hL⟩
theorem copy_kp (dd i : Int) (h : Kp w₀ w b sb size st S) (ok : Ok size st) (hs : size ≤ 64) :
    Calls Try.prog 13 #[.pointer (some ⟨b, 0, none⟩), .int .i64 dd, .int .i64 i] w fun e w' => e = .returned (.tuple #[.string (atS (flyL st.L dd) i), .bool (inB (flyL st.L dd).length i)]) ∧ Kp w₀ w' b sb size st S ∧ Others w w' := by
  obtain ⟨bs, aos, caps, aom, capm, h1, h2, h3⟩ := h.ex
  refine (ccopy_c dd i w _ size b bs aos caps st h1 (fun t ht => Nat.le_trans (ok.len t ht) (by omega)) (ok.at_le dd i)).mono ?_
  rintro e w' ⟨rfl, hB⟩
  exact ⟨rfl, h.keep hB, Others.old hB⟩
theorem drop_kp (dd i : Int) (h : Kp w₀ w b sb size st S) (ok : Ok size st) (hs : size ≤ 64) (hl : st.lost ≤ 100000) :
    Calls Try.prog 14 #[.pointer (some ⟨b, 0, none⟩), .int .i64 dd, .int .i64 i] w fun e w' => e = .returned (.bool (inB (flyL st.L dd).length i)) ∧ Kp w₀ w' b sb size (dropSt st dd i) S ∧ Others w w' := by
  obtain ⟨bs, aos, caps, aom, capm, h1, h2, h3⟩ := h.ex
  refine (cdrop_c dd i w _ size b bs aos caps st h1 (fun t ht => Nat.le_trans (ok.len t ht) (by omega)) (by omega)).mono ?_
  rintro e w' ⟨rfl, hL⟩
  exact ⟨rfl, kp_step h.old h1 h2 h3 hL⟩
theorem cut_kp (h : Kp w₀ w b sb size st S) (ok : Ok size st) (hs : size ≤ 64) (hl : st.lost ≤ 100000) :
    Calls Try.prog 15 #[.pointer (some ⟨b, 0, none⟩)] w fun e w' => e = .returned (.int .i64 (((st.L 0).length + (st.L 1).length : Nat) : Int)) ∧ Kp w₀ w' b sb size (cutSt st) S ∧ Others w w' := by
  obtain ⟨bs, aos, caps, aom, capm, h1, h2, h3⟩ := h.ex
  refine (ccut_c w _ size b bs aos caps st h1 (fun t ht => Nat.le_trans (ok.len t ht) (by omega)) hl).mono ?_
  rintro e w' ⟨rfl, hL⟩
  exact ⟨rfl, kp_step h.old h1 h2 h3 hL⟩
end

/-- what flies was sent. -/
def Sub (st : St) (S : Nat → List ByteArray) : Prop := ∀ t, t < 2 → ∀ x ∈ st.L t, x ∈ S t
theorem Sub.new : Sub ⟨fun _ => [], 0⟩ (fun _ => []) := fun _ _ x hx => by simp at hx
theorem send_end {dd : Int} {s : ByteArray} (he : sendE dd s = 0) : ∃ t : Nat, dd = t ∧ t < 2 := by
  unfold sendE at he
  by_cases h0 : inB 2 dd = false ∨ s.size = 0
  · rw [if_pos h0] at he; omega
  · refine in_of ?_
    by_cases hx : inB 2 dd = true
    · exact hx
    · exact absurd (.inl (by simpa using hx)) h0
theorem Sub.send {size : Nat} {st : St} {S : Nat → List ByteArray} (h : Sub st S) {t : Nat} {s : ByteArray} (ht : t < 2) (he : sendE (t : Int) s = 0) : Sub (sendSt size st (t : Int) s) (upd S t (S t ++ [s])) := by
  intro u hu x hx
  rw [sendSt, if_pos he, fly_in _ ht] at hx
  by_cases hr : (st.L t).length < size
  · rw [if_pos hr] at hx
    replace hx : x ∈ upd st.L t (st.L t ++ [s]) u := hx
    by_cases e : u = t
    · subst e
      rw [upd_same] at hx ⊢
      rcases List.mem_append.1 hx with hx | hx
      · exact List.mem_append.2 (.inl (h u hu x hx))
      · exact List.mem_append.2 (.inr hx)
    · rw [upd_other _ _ _ _ e] at hx ⊢
      exact h u hu x hx
  · rw [if_neg hr] at hx
    by_cases e : u = t
    · subst e
      rw [upd_same]
      exact List.mem_append.2 (.inl (h u hu x hx))
    · rw [upd_other _ _ _ _ e]
      exact h u hu x hx
theorem Sub.take {st : St} {S : Nat → List ByteArray} (h : Sub st S) (dd i : Int) : Sub (takeSt st dd i) S := by
  intro u hu x hx
  replace hx : x ∈ takeF st.L dd i u := hx
  unfold takeF at hx
  split at hx
  · by_cases e : u = dd.toNat
    · subst e
      rw [upd_same] at hx
      exact h _ hu x (offL_mem hx)
    · rw [upd_other _ _ _ _ e] at hx
      exact h u hu x hx
  · exact h u hu x hx
theorem Sub.drop {st : St} {S : Nat → List ByteArray} (h : Sub st S) (dd i : Int) : Sub (dropSt st dd i) S := by
  rw [drop_take]
  exact h.take dd i
theorem Sub.cut {st : St} {S : Nat → List ByteArray} : Sub (cutSt st) S := fun _ _ x hx => by simp [cutSt] at hx
theorem Sub.out {st : St} {S : Nat → List ByteArray} (h : Sub st S) {dd i : Int} (hi : inB (flyL st.L dd).length i = true) : ∃ t : Nat, dd = t ∧ t < 2 ∧ atS (flyL st.L dd) i ∈ S t := by
  have hm := atS_mem hi
  by_cases hd : inB 2 dd = true
  · obtain ⟨t, rfl, ht⟩ := in_of hd
    refine ⟨t, rfl, ht, h t ht _ ?_⟩
    rw [fly_in _ ht] at hm ⊢
    exact hm
  · rw [fly_no _ (by simpa using hd)] at hm
    simp at hm

theorem bytes_ne {z y : ByteArray} (h : z ≠ y) : (z.toList == y.toList) = false := by
  rw [beq_eq_false_iff_ne, ByteArray.toList_eq, ByteArray.toList_eq]
  intro e
  exact h (ByteArray.ext (Array.toList_inj.1 e))
theorem one_le (S : Nat → List ByteArray) {t : Nat} (ht : t < 2) : (S t).length ≤ (S 0).length + (S 1).length := by
  rcases t with _ | _ | t
  · exact Nat.le_add_right _ _
  · exact Nat.le_add_left _ _
  · omega

/-- an append as one step of a region that draws its order: a list of the call's own grows by cells that lie at an address; where it lies then. -/
theorem step_append_near {P : Program} (w : World) {ops : Array Oper} {o : Oper} {a : Act} {K : Act → World → Prop} {Q : Exit → Act → World → Prop} {E : Prop} (hgd : o.guard = none) (s x : Operand) (t : TypeId)
    (ho : o.op = .call { callee := .builtin .append, args := #[s, x], argTypes := #[t, t] })
    (base : Nat) (e : TypeId) (i : TypeInfo) (z : Value) (size bytes : Nat) (ht : P.underlying t = some (.slice e)) (hi : P.info? e = some i) (hz : i.zero = some z)
    (hsize : i.size = size) (hby : i.bytes = bytes) (hzs : z.cells.size = size) (hsz : 0 < size)
    (v : Value) (n : Nat) (xs : List Value) (hs : a.eval s = v) (hown : w.ownsRow base e size v n xs)
    (ad : Addr) (m c : Nat) (news : List Value) (hx : a.eval x = .slice (some ad) m c) (hl : news.length = m * size) (hnews : ∀ j u, news[j]? = some u → w.cell? (ad.add j) = some u) (h1 : ∀ u ∈ news, u.oneCell' = true)
    (h63 : n + m ≤ maxLen) (hbytes : (n + m) * bytes ≤ 140737488355328) (hbase : base ≤ w.heap.size) (k : Nat) (hk : n + m = k) (ys : List Value) (hy : xs ++ news = ys)
    (h : ∀ ao' cap' w', w'.ownsRow base e size (.slice ao' k cap') k ys → w.grownBy w' v.ownBlock → (Value.ownBlock (.slice ao' k cap') = v.ownBlock ∨ Value.ownBlock (.slice ao' k cap') = some w.heap.size) → K (a.put o.dst (.slice ao' k cap')) w') :
    if Region.wanted o (yielded ops a.tmps) = true then Oper.wp P o a w K Q else E := by
  have hw : Region.wanted o (yielded ops a.tmps) = true := by simp [Region.wanted, hgd]
  rw [if_pos hw]
  obtain ⟨v', w', hr, h2, h3, _, h4⟩ := run_append_own_at (P := P) w base t o.type e i z size bytes ht hi hz hsize hby hzs hsz v n xs hown ad m c news hl hnews h1 h63 hbytes hbase
  obtain ⟨ao', cap', rfl⟩ := row_form h2
  subst hk
  subst hy
  unfold Oper.wp
  simp [execOp, ho, resolve, invoke, builtin, hs, hx, hr, Result.andThen]
  exact h ao' cap' w' h2 h3 h4

end Go.Proofs.Ytfifoikphhjomaa.Cb
