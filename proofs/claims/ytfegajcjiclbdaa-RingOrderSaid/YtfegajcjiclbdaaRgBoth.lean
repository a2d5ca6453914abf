/- A ring of the program's and one of the document's side by side: what each call leaves of both, and of all other blocks. -/
import Derived.Test.YtfegajcjiclbdaaRgTake
import Derived.Test.YtfegajcjiclbdaaRgRef
import Derived.Test.YtfegajcjiclbdaaRgList
import Derived.Test.YtfegajcjiclbdaaRgInts
import Derived.Test.YtfegajcjiclbdaaRgLaw1
namespace Go.Proofs.Ytfegajcjiclbdaa.Rg
open Go.RowKit
set_option linter.unusedVariables false

/-- blocks of other types than rings and lists of ints are as they were. -/
def Others (w w' : World) : Prop := ∀ (k : Nat) (cs : Array Value) (t : TypeId) (fr : Nat × Nat), t ≠ 60 → t ≠ 31 → t ≠ 3 → w.heap[k]? = some (.cells cs t fr) → w'.heap[k]? = some (.cells cs t fr)
theorem Others.refl (w : World) : Others w w := fun _ _ _ _ _ _ _ h => h
theorem Others.drewN (w : World) (q : Nat) : Others w (w.drewN q) := fun _ _ _ _ _ _ _ h => h
theorem Others.trans {a b c : World} (h : Others a b) (k : Others b c) : Others a c := fun i cs t fr h1 h2 h3 e => k i cs t fr h1 h2 h3 (h i cs t fr h1 h2 h3 e)
theorem Others.old {a b : World} (h : Below a.heap.size a b) : Others a b := fun k cs t fr _ _ _ e => (h.block k (Array.getElem?_eq_some_iff.1 e).1).trans e
theorem Others.foot {w w' : World} {n₀ t b cap n : Nat} {cs : List Value} {ao : Option Addr} {xs : List Value} (h : Held w n₀ t 3 1 b cs ao n cap xs) (ht : t = 60 ∨ t = 31) (k : Keeps (Foot b ao) w w') : Others w w' := by
  intro i cs' t' fr h1 h2 h3 e
  refine (k.block i (Array.getElem?_eq_some_iff.1 e).1 ?_).trans e
  rintro (rfl | ⟨a, ha, rfl⟩)
  · have := h.block.symm.trans e
    simp at this
    rcases ht with rfl | rfl
    · exact h1 this.2.1.symm
    · exact h2 this.2.1.symm
  · rcases h.form with ⟨h4, _⟩ | ⟨g, cur, h4, _, hg, _⟩
    · rw [h4] at ha; cases ha
    · rw [h4] at ha; cases ha
      have := hg.symm.trans e
      simp at this
      exact h3 this.2.1.symm

structure Pair (w : World) (n₀ b m size : Nat) (l k : List Int) (ao : Option Addr) (cap : Nat) (ao' : Option Addr) (cap' : Nat) : Prop where
  ring : Ring w n₀ 60 b size ao cap l
  ref : Ring w n₀ 31 m size ao' cap' k
  apart : ∀ i, Foot b ao i → ¬ Foot m ao' i

/-- both rings, and nothing that lay ahead of them has turned. -/
structure Both (w₀ w : World) (b m size : Nat) (l k : List Int) : Prop where
  two : ∃ ao cap ao' cap', Pair w w₀.heap.size b m size l k ao cap ao' cap'
  old : Below w₀.heap.size w₀ w

section
variable {w₀ w w' : World} {b m size : Nat} {l k l' : List Int}

theorem Both.keep (h : Both w₀ w b m size l k) (hb : Below w.heap.size w w') : Both w₀ w' b m size l k := by
  obtain ⟨ao, cap, ao', cap', p⟩ := h.two
  exact ⟨⟨ao, cap, ao', cap', p.ring.old hb, p.ref.old hb, p.apart⟩, h.old.trans (hb.mono h.old.size)⟩
theorem Both.drewN (h : Both w₀ w b m size l k) (q : Nat) : Both w₀ (w.drewN q) b m size l k := h.keep ⟨rfl, rfl, rfl, Nat.le_refl _, fun _ _ => rfl⟩

theorem apart_step {b m N : Nat} {ao ao' ao1 : Option Addr} (hap : ∀ i, Foot b ao i → ¬ Foot m ao' i) (hn : Near ao ao1 N) (hlt : ∀ i, Foot m ao' i → i < N) : ∀ i, Foot b ao1 i → ¬ Foot m ao' i := by
  rintro i (rfl | ⟨a, ha, rfl⟩) h
  · exact hap i (.inl rfl) h
  · rcases hn a ha with ⟨c, hc, e⟩ | h1
    · exact hap _ (.inr ⟨c, hc, e.symm⟩) h
    · have := hlt _ h; omega

theorem ring_step {ao : Option Addr} {cap : Nat} {ao' : Option Addr} {cap' : Nat} (p : Pair w w₀.heap.size b m size l k ao cap ao' cap') (ho : Below w₀.heap.size w₀ w) {ao1 : Option Addr} {cap1 : Nat}
    (h1 : Ring w' w₀.heap.size 60 b size ao1 cap1 l') (hn : Near ao ao1 w.heap.size) (hk : Keeps (Foot b ao) w w') : Both w₀ w' b m size l' k ∧ Others w w' :=
  ⟨⟨⟨ao1, cap1, ao', cap', h1, p.ref.keeps hk (fun i hi hs => p.apart i hs hi), apart_step p.apart hn p.ref.footLt⟩, ho.trans (hk.below ho.size p.ring.footGe)⟩, Others.foot p.ring (.inl rfl) hk⟩
theorem ref_step {ao : Option Addr} {cap : Nat} {ao' : Option Addr} {cap' : Nat} (p : Pair w w₀.heap.size b m size l k ao cap ao' cap') (ho : Below w₀.heap.size w₀ w) {ao1 : Option Addr} {cap1 : Nat}
    (h1 : Ring w' w₀.heap.size 31 m size ao1 cap1 l') (hn : Near ao' ao1 w.heap.size) (hk : Keeps (Foot m ao') w w') : Both w₀ w' b m size l l' ∧ Others w w' :=
  ⟨⟨⟨ao, cap, ao1, cap1, p.ring.keeps hk (fun i hi hs => p.apart i hi hs), h1, fun i hi hm => apart_step (fun i h1 h2 => p.apart i h2 h1) hn p.ring.footLt i hm hi⟩, ho.trans (hk.below ho.size p.ref.footGe)⟩, Others.foot p.ref (.inr rfl) hk⟩
end

/-- a list with one more, if there is room. -/
def pushL (size : Nat) (l : List Int) (x : Int) : List Int := if l.length < size then l ++ [x] else l
def pushE (size : Nat) (l : List Int) : Int := if l.length < size then 0 else 8
theorem pushL_len {size : Nat} {l : List Int} (h : l.length ≤ size) (x : Int) : (pushL size l x).length ≤ size := by
  unfold pushL; split
  · simp; omega
  · exact h

section
variable (w₀ w : World) (b m size : Nat) (l k : List Int)

theorem push_both (x : Int) (h : Both w₀ w b m size l k) (hs : size ≤ 4096) (hl : l.length ≤ size) :
    Calls Try.prog 9 #[.pointer (some ⟨b, 0, none⟩), .int .i64 x] w fun e w' => e = .returned (.int .i64 (pushE size l)) ∧ Both w₀ w' b m size (pushL size l x) k ∧ Others w w' := by
  obtain ⟨ao, cap, ao', cap', p⟩ := h.two
  by_cases hf : l.length < size
  · refine (push_c x _ b size cap ao l w p.ring hs hf h.old.size).mono ?_
    rintro e w' ⟨rfl, ao1, cap1, h1, hn, hk⟩
    rw [pushE, if_pos hf, pushL, if_pos hf]
    exact ⟨rfl, ring_step p h.old h1 hn hk⟩
  · refine (push_full x _ b size cap ao l w p.ring hs (by omega)).mono ?_
    rintro e w' ⟨rfl, q, rfl⟩
    rw [pushE, if_neg hf, pushL, if_neg hf]
    exact ⟨rfl, h.drewN q, Others.drewN w q⟩

theorem rpush_both (x : Int) (h : Both w₀ w b m size l k) (hs : size ≤ 4096) (hl : k.length ≤ size) :
    Calls Try.prog 10 #[.pointer (some ⟨m, 0, none⟩), .int .i64 x] w fun e w' => e = .returned (.int .i64 (pushE size k)) ∧ Both w₀ w' b m size l (pushL size k x) ∧ Others w w' := by
  obtain ⟨ao, cap, ao', cap', p⟩ := h.two
  by_cases hf : k.length < size
  · refine (rpush_c x _ m size cap' ao' k w p.ref hs hf h.old.size).mono ?_
    rintro e w' ⟨rfl, ao1, cap1, h1, hn, hk⟩
    rw [pushE, if_pos hf, pushL, if_pos hf]
    exact ⟨rfl, ref_step p h.old h1 hn hk⟩
  · refine (rpush_full x _ m size cap' ao' k w p.ref (by omega)).mono ?_
    rintro e w' ⟨rfl, q, rfl⟩
    rw [pushE, if_neg hf, pushL, if_neg hf]
    exact ⟨rfl, h.drewN q, Others.drewN w q⟩

theorem take_both (i : Int) (h : Both w₀ w b m size l k) (hl : l.length ≤ 4096) :
    Calls Try.prog 29 #[.pointer (some ⟨b, 0, none⟩), .int .i64 i] w fun e w' => e = .returned (.tuple #[.int .i64 (atI l i), .bool (atB l i)]) ∧ Both w₀ w' b m size (takeL l i) k ∧ Others w w' := by
  obtain ⟨ao, cap, ao', cap', p⟩ := h.two
  refine (take_c i _ b size cap ao l w p.ring hl).mono ?_
  rintro e w' ⟨rfl, ao1, cap1, h1, hn, hk⟩
  exact ⟨rfl, ring_step p h.old h1 hn hk⟩

theorem pop_both (h : Both w₀ w b m size l k) (hl : l.length ≤ 4096) :
    Calls Try.prog 18 #[.pointer (some ⟨b, 0, none⟩)] w fun e w' => e = .returned (.tuple #[.int .i64 (atI l 0), .bool (atB l 0)]) ∧ Both w₀ w' b m size (takeL l 0) k ∧ Others w w' := by
  obtain ⟨ao, cap, ao', cap', p⟩ := h.two
  refine (pop_c _ b size cap ao l w p.ring hl).mono ?_
  rintro e w' ⟨rfl, ao1, cap1, h1, hn, hk⟩
  exact ⟨rfl, ring_step p h.old h1 hn hk⟩

theorem rtake_both (i : Int) (h : Both w₀ w b m size l k) (hl : k.length ≤ 4096) :
    Calls Try.prog 31 #[.pointer (some ⟨m, 0, none⟩), .int .i64 i] w fun e w' => e = .returned (.tuple #[.int .i64 (atI k i), .bool (atB k i)]) ∧ Both w₀ w' b m size l (takeL k i) ∧ Others w w' := by
  obtain ⟨ao, cap, ao', cap', p⟩ := h.two
  refine (rtake_c i _ m size cap' ao' k w p.ref hl h.old.size).mono ?_
  rintro e w' ⟨rfl, ao1, cap1, h1, hn, hk⟩
  exact ⟨rfl, ref_step p h.old h1 hn hk⟩
end

/-- an act's block: the call's kind and its two numbers. -/
def ActAt (w : World) (xb : Nat) (kd n x : Int) : Prop := w.heap[xb]? = some (.cells #[.int .i64 kd, .int .i64 n, .int .i64 x] 33 (0, 0))
theorem ActAt.keep {w w' : World} {xb : Nat} {kd n x : Int} (h : ActAt w xb kd n x) (o : Others w w') : ActAt w' xb kd n x := o xb _ _ _ (by decide) (by decide) (by decide) h
theorem ActAt.c0 {w : World} {xb : Nat} {kd n x : Int} (h : ActAt w xb kd n x) : w.cell? ⟨xb, 0, none⟩ = some (.int .i64 kd) := by rw [cell_of_row w xb 0 _ _ _ h]; rfl
theorem ActAt.c1 {w : World} {xb : Nat} {kd n x : Int} (h : ActAt w xb kd n x) : w.cell? ⟨xb, 1, none⟩ = some (.int .i64 n) := by rw [cell_of_row w xb 1 _ _ _ h]; rfl
theorem ActAt.c2 {w : World} {xb : Nat} {kd n x : Int} (h : ActAt w xb kd n x) : w.cell? ⟨xb, 2, none⟩ = some (.int .i64 x) := by rw [cell_of_row w xb 2 _ _ _ h]; rfl
theorem ActAt.new (w : World) (kd n x : Int) : ActAt (w.alloc (.cells #[.int .i64 kd, .int .i64 n, .int .i64 x] 33)) w.heap.size kd n x := heap_alloc_new w _

/-- what an act takes off. -/
def playL (kd n : Int) (l : List Int) : List Int := if kd = 2 then takeL l 0 else if kd = 3 then takeL l n else l
theorem playL_len (kd n : Int) (l : List Int) : (playL kd n l).length ≤ l.length := by
  unfold playL; split
  · exact takeL_len _ _
  · split
    · exact takeL_len _ _
    · exact Nat.le_refl _

set_option maxHeartbeats 1000000 in
theorem played_c (w₀ w : World) (b m size : Nat) (l : List Int) (kd n x : Int) (h : Both w₀ w b m size l l) (hl : l.length ≤ 4096) :
    Calls Try.prog 11 #[.pointer (some ⟨b, 0, none⟩), .pointer (some ⟨m, 0, none⟩), .agg #[.int .i64 kd, .int .i64 n, .int .i64 x]] w fun e w' => e = .returned (.bool true) ∧ Both w₀ w' b m size (playL kd n l) (playL kd n l) ∧ Others w w' := by
  have ha := ActAt.new w kd n x
  have hB : Below w.heap.size w (w.alloc (.cells #[.int .i64 kd, .int .i64 n, .int .i64 x] 33)) := (Below.refl _ w).alloc (Nat.le_refl _) _
  have h1 := h.keep hB
  have o1 := Others.old hB
  by_cases k2 : kd = 2
  · subst k2
    have e2 : Hid (playL 2 n l = takeL l 0) := by simp [Hid, playL]
    rw [e2.out]
    go_enter Try.func11, Try.ntmps11
    go_wp2_with fail
    refine (pop_both w₀ _ b m size l l h1 hl).mono ?_
    rintro e w2 ⟨rfl, h2, o2⟩
    go_wp2_with fail
    refine (rtake_both w₀ _ b m size (takeL l 0) l 0 h2 hl).mono ?_
    rintro e w3 ⟨rfl, h3, o3⟩
    go_wp2_with fail
    go_ret
    exact ⟨rfl, h3, (o1.trans o2).trans o3⟩
  · have hk2 : (kd == 2) = false := by simpa using k2
    by_cases k3 : kd = 3
    · subst k3
      have e2 : Hid (playL 3 n l = takeL l n) := by simp [Hid, playL]
      rw [e2.out]
      clear hk2 k2
      have a1 := ha.c1
      go_enter Try.func11, Try.ntmps11
      go_wp2_with fail
      refine (take_both w₀ _ b m size l l n h1 hl).mono ?_
      rintro e w2 ⟨rfl, h2, o2⟩
      have a2 := (ha.keep o2).c1
      go_wp2_with fail
      refine (rtake_both w₀ _ b m size (takeL l n) l n h2 hl).mono ?_
      rintro e w3 ⟨rfl, h3, o3⟩
      go_wp2_with fail
      go_ret
      exact ⟨rfl, h3, (o1.trans o2).trans o3⟩
    · have hk3 : (kd == 3) = false := by simpa using k3
      have e2 : Hid (playL kd n l = l) := by simp [Hid, playL, k2, k3]
      rw [e2.out]
      go_enter Try.func11, Try.ntmps11
      go_wp2_with fail
      go_ret
      exact ⟨rfl, h1, o1⟩

end Go.Proofs.Ytfegajcjiclbdaa.Rg
