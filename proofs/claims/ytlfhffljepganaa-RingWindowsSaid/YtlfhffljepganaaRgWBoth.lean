/- A window of the program's and one of the document's side by side: what each call leaves of both, and of all other blocks. -/
import Derived.Test.YtlfhffljepganaaRgPut
import Derived.Test.YtlfhffljepganaaRgWinMath
import Derived.Test.YtlfhffljepganaaRgFrames
namespace Go.Proofs.Ytlfhffljepganaa.Rg
open Go.RowKit
set_option linter.unusedVariables false

/-- blocks of other types than windows and their lists are as they were. -/
def OthersW (w w' : World) : Prop := ∀ (k : Nat) (cs : Array Value) (t : TypeId) (fr : Nat × Nat), t ≠ 66 → t ≠ 51 → t ≠ 68 → t ≠ 56 → w.heap[k]? = some (.cells cs t fr) → w'.heap[k]? = some (.cells cs t fr)
theorem OthersW.refl (w : World) : OthersW w w := fun _ _ _ _ _ _ _ _ h => h
theorem OthersW.trans {a b c : World} (h : OthersW a b) (k : OthersW b c) : OthersW a c := fun i cs t fr h1 h2 h3 h4 e => k i cs t fr h1 h2 h3 h4 (h i cs t fr h1 h2 h3 h4 e)
theorem OthersW.old {a b : World} (h : Below a.heap.size a b) : OthersW a b := fun k cs t fr _ _ _ _ e => (h.block k (Array.getElem?_eq_some_iff.1 e).1).trans e
theorem OthersW.drewN (w : World) (q : Nat) : OthersW w (w.drewN q) := fun _ _ _ _ _ _ _ _ h => h
theorem OthersW.foot {w w' : World} {n₀ t e b cap n : Nat} {cs : List Value} {ao : Option Addr} {xs : List Value} (h : Held w n₀ t e 2 b cs ao n cap xs) (ht : (t = 66 ∧ e = 68) ∨ (t = 51 ∧ e = 56)) (k : Keeps (Foot b ao) w w') : OthersW w w' := by
  intro i cs' t' fr h1 h2 h3 h4 e'
  refine (k.block i (Array.getElem?_eq_some_iff.1 e').1 ?_).trans e'
  rintro (rfl | ⟨a, ha, rfl⟩)
  · have := h.block.symm.trans e'
    simp at this
    rcases ht with ⟨rfl, _⟩ | ⟨rfl, _⟩
    · exact h1 this.2.1.symm
    · exact h2 this.2.1.symm
  · rcases h.form with ⟨h5, _⟩ | ⟨g, cur, h5, _, hg, _⟩
    · rw [h5] at ha; cases ha
    · rw [h5] at ha; cases ha
      have := hg.symm.trans e'
      simp at this
      rcases ht with ⟨_, rfl⟩ | ⟨_, rfl⟩
      · exact h3 this.2.1.symm
      · exact h4 this.2.1.symm

structure WPair (w : World) (n₀ b m size : Nat) (f : Int) (l : List (Int × Int)) (f' : Int) (k : List (Int × Int)) (ao : Option Addr) (cap : Nat) (ao' : Option Addr) (cap' : Nat) : Prop where
  win : Win w n₀ 66 68 b size f ao cap l
  ref : Win w n₀ 51 56 m size f' ao' cap' k
  apart : ∀ i, Foot b ao i → ¬ Foot m ao' i

structure WBoth (w₀ w : World) (b m size : Nat) (f : Int) (l : List (Int × Int)) (f' : Int) (k : List (Int × Int)) : Prop where
  two : ∃ ao cap ao' cap', WPair w w₀.heap.size b m size f l f' k ao cap ao' cap'
  old : Below w₀.heap.size w₀ w

section
variable {w₀ w w' : World} {b m size : Nat} {f f' : Int} {l k l' : List (Int × Int)}

theorem WBoth.keep (h : WBoth w₀ w b m size f l f' k) (hb : Below w.heap.size w w') : WBoth w₀ w' b m size f l f' k := by
  obtain ⟨ao, cap, ao', cap', p⟩ := h.two
  exact ⟨⟨ao, cap, ao', cap', p.win.old hb, p.ref.old hb, p.apart⟩, h.old.trans (hb.mono h.old.size)⟩
theorem WBoth.drewN (h : WBoth w₀ w b m size f l f' k) (q : Nat) : WBoth w₀ (w.drewN q) b m size f l f' k := h.keep ⟨rfl, rfl, rfl, Nat.le_refl _, fun _ _ => rfl⟩

theorem apart_near {b m N : Nat} {ao ao' ao1 : Option Addr} (hap : ∀ i, Foot b ao i → ¬ Foot m ao' i) (hn : Near ao ao1 N) (hlt : ∀ i, Foot m ao' i → i < N) : ∀ i, Foot b ao1 i → ¬ Foot m ao' i := by
  rintro i (rfl | ⟨a, ha, rfl⟩) h
  · exact hap i (.inl rfl) h
  · rcases hn a ha with ⟨c, hc, e⟩ | h1
    · exact hap _ (.inr ⟨c, hc, e.symm⟩) h
    · have := hlt _ h; omega

theorem win_step {ao : Option Addr} {cap : Nat} {ao' : Option Addr} {cap' : Nat} (p : WPair w w₀.heap.size b m size f l f' k ao cap ao' cap') (ho : Below w₀.heap.size w₀ w) {f1 : Int} {ao1 : Option Addr} {cap1 : Nat}
    (h1 : Win w' w₀.heap.size 66 68 b size f1 ao1 cap1 l') (hn : Near ao ao1 w.heap.size) (hk : Keeps (Foot b ao) w w') : WBoth w₀ w' b m size f1 l' f' k ∧ OthersW w w' :=
  ⟨⟨⟨ao1, cap1, ao', cap', h1, p.ref.keeps hk (fun i hi hs => p.apart i hs hi), apart_near p.apart hn p.ref.footLt⟩, ho.trans (hk.below ho.size p.win.footGe)⟩, OthersW.foot p.win (.inl ⟨rfl, rfl⟩) hk⟩
theorem wref_step {ao : Option Addr} {cap : Nat} {ao' : Option Addr} {cap' : Nat} (p : WPair w w₀.heap.size b m size f l f' k ao cap ao' cap') (ho : Below w₀.heap.size w₀ w) {f1 : Int} {ao1 : Option Addr} {cap1 : Nat}
    (h1 : Win w' w₀.heap.size 51 56 m size f1 ao1 cap1 l') (hn : Near ao' ao1 w.heap.size) (hk : Keeps (Foot m ao') w w') : WBoth w₀ w' b m size f l f1 l' ∧ OthersW w w' :=
  ⟨⟨⟨ao, cap, ao1, cap1, p.win.keeps hk (fun i hi hs => p.apart i hi hs), h1, fun i hi hm => apart_near (fun i h1 h2 => p.apart i h2 h1) hn p.win.footLt i hm hi⟩, ho.trans (hk.below ho.size p.ref.footGe)⟩, OthersW.foot p.ref (.inr ⟨rfl, rfl⟩) hk⟩
/-- the document's first frame is stored. -/
theorem WBoth.setFirst (h : WBoth w₀ w b m size f l f' k) (f1 : Int) : WBoth w₀ (w.setCell ⟨m, 1, none⟩ (.int .i64 f1)) b m size f l f1 k ∧ OthersW w (w.setCell ⟨m, 1, none⟩ (.int .i64 f1)) := by
  obtain ⟨ao, cap, ao', cap', p⟩ := h.two
  obtain ⟨h1, hk⟩ := win_first p.ref (by decide) f1
  exact wref_step p h.old h1 (Near.refl _ _) hk
end

/-- what Put makes of a window's list, and answers. -/
def putW (size : Nat) (f : Int) (l : List (Int × Int)) (i x : Int) : List (Int × Int) := if i < f then l else if (size : Int) ≤ i - f ∨ 1073741824 < i then l else putL l i x
def putWE (size : Nat) (f : Int) (i : Int) : Int := if i < f then 10 else if (size : Int) ≤ i - f ∨ 1073741824 < i then 8 else 0
theorem putW_good {size : Nat} {f : Int} {l : List (Int × Int)} (h : Good size f l) (i x : Int) : Good size f (putW size f l i x) := by
  unfold putW
  split
  · exact h
  · split
    · exact h
    · exact h.put (by omega) (by omega) (by omega)

section
variable (w₀ w : World) (b m size : Nat) (f : Int) (l : List (Int × Int)) (f' : Int) (k : List (Int × Int))

theorem wput (i x : Int) (h : WBoth w₀ w b m size f l f' k) (hg : Good size f l) (hs : size ≤ 4096) (h63 : i ≤ 9223372036854775807) :
    Calls Try.prog 20 #[.pointer (some ⟨b, 0, none⟩), .int .i64 i, .int .i64 x] w fun e w' => e = .returned (.int .i64 (putWE size f i)) ∧ WBoth w₀ w' b m size f (putW size f l i x) f' k ∧ OthersW w w' := by
  obtain ⟨ao, cap, ao', cap', p⟩ := h.two
  have hl := hg.len
  unfold putW putWE
  by_cases h1 : i < f
  · rw [if_pos h1, if_pos h1]
    refine (put_old i x _ b size cap f ao l w p.win h1).mono ?_
    rintro e w' ⟨rfl, rfl⟩
    exact ⟨rfl, h, OthersW.refl _⟩
  · rw [if_neg h1, if_neg h1]
    by_cases h2 : (size : Int) ≤ i - f ∨ 1073741824 < i
    · rw [if_pos h2, if_pos h2]
      refine (put_full i x _ b size cap f ao l w p.win hg.ge (by omega) h63 h2).mono ?_
      rintro e w' ⟨rfl, q, rfl⟩
      exact ⟨rfl, h.drewN q, OthersW.drewN w q⟩
    · rw [if_neg h2, if_neg h2]
      refine (put_c i x _ b size cap f ao l w p.win hg.up (by omega) h.old.size hg.ge (by omega) (by omega) (by omega)).mono ?_
      rintro e w' ⟨rfl, ao1, cap1, hw, hn, hk⟩
      exact ⟨rfl, win_step p h.old hw hn hk⟩

theorem wrput (i x : Int) (h : WBoth w₀ w b m size f l f' k) (hg : Good size f' k) (hs : size ≤ 4096) (h63 : i ≤ 9223372036854775807) :
    Calls Try.prog 21 #[.pointer (some ⟨m, 0, none⟩), .int .i64 i, .int .i64 x] w fun e w' => e = .returned (.int .i64 (putWE size f' i)) ∧ WBoth w₀ w' b m size f l f' (putW size f' k i x) ∧ OthersW w w' := by
  obtain ⟨ao, cap, ao', cap', p⟩ := h.two
  have hl := hg.len
  unfold putW putWE
  by_cases h1 : i < f'
  · rw [if_pos h1, if_pos h1]
    refine (rput_old i x _ m size cap' f' ao' k w p.ref h1).mono ?_
    rintro e w' ⟨rfl, rfl⟩
    exact ⟨rfl, h, OthersW.refl _⟩
  · rw [if_neg h1, if_neg h1]
    by_cases h2 : (size : Int) ≤ i - f' ∨ 1073741824 < i
    · rw [if_pos h2, if_pos h2]
      refine (rput_full i x _ m size cap' f' ao' k w p.ref hg.ge (by omega) h63 h2).mono ?_
      rintro e w' ⟨rfl, q, rfl⟩
      exact ⟨rfl, h.drewN q, OthersW.drewN w q⟩
    · rw [if_neg h2, if_neg h2]
      refine (rput_c i x _ m size cap' f' ao' k w p.ref hg.up (by omega) h.old.size hg.ge (by omega) (by omega) (by omega)).mono ?_
      rintro e w' ⟨rfl, ao1, cap1, hw, hn, hk⟩
      exact ⟨rfl, wref_step p h.old hw hn hk⟩

theorem wmove (i : Int) (h : WBoth w₀ w b m size f l f' k) (hg : Good size f l) (hs : size ≤ 4096) (hi : f ≤ i ∧ i ≤ 1073741824) :
    Calls Try.prog 23 #[.pointer (some ⟨b, 0, none⟩), .int .i64 i] w fun e w' => e = .returned (.int .i64 (lo l i)) ∧ WBoth w₀ w' b m size i (l.drop (lo l i)) f' k ∧ OthersW w w' := by
  obtain ⟨ao, cap, ao', cap', p⟩ := h.two
  have hl := hg.len
  refine (move_c i _ b size cap f ao l w p.win hg.up (by omega) hi).mono ?_
  rintro e w' ⟨rfl, hw, hk⟩
  exact ⟨rfl, win_step p h.old hw (Near.refl _ _) hk⟩

theorem wmove_no (i : Int) (h : WBoth w₀ w b m size f l f' k) (hi : i < f ∨ 1073741824 < i) :
    Calls Try.prog 23 #[.pointer (some ⟨b, 0, none⟩), .int .i64 i] w fun e w' => e = .returned (.int .i64 0) ∧ w = w' := by
  obtain ⟨ao, cap, ao', cap', p⟩ := h.two
  exact move_no i _ b size cap f ao l w p.win hi

theorem wcut (i : Int) (h : WBoth w₀ w b m size f l f' k) (hg : Good size f l) (hs : size ≤ 4096) :
    Calls Try.prog 24 #[.pointer (some ⟨b, 0, none⟩), .int .i64 i] w fun e w' => e = .returned (.int .i64 ((l.length : Int) - (lo l i : Int))) ∧ WBoth w₀ w' b m size f (l.take (lo l i)) f' k ∧ OthersW w w' := by
  obtain ⟨ao, cap, ao', cap', p⟩ := h.two
  have hl := hg.len
  refine (cut_c i _ b size cap f ao l w p.win hg.up (by omega)).mono ?_
  rintro e w' ⟨rfl, hw, hk⟩
  exact ⟨rfl, win_step p h.old hw (Near.refl _ _) hk⟩

theorem wrkeep (a c : Int) (h : WBoth w₀ w b m size f l f' k) (hg : Good size f' k) (hs : size ≤ 4096) :
    Calls Try.prog 22 #[.pointer (some ⟨m, 0, none⟩), .int .i64 a, .int .i64 c] w fun e w' => e = .returned (.int .i64 ((k.length : Int) - ((keepL a c k).length : Int))) ∧ WBoth w₀ w' b m size f l f' (keepL a c k) ∧ OthersW w w' := by
  obtain ⟨ao, cap, ao', cap', p⟩ := h.two
  have hl := hg.len
  refine (rkeep_c a c _ m size cap' f' ao' k w p.ref (by omega) h.old.size).mono ?_
  rintro e w' ⟨rfl, ao1, cap1, hw, hn, hk⟩
  exact ⟨rfl, wref_step p h.old hw hn hk⟩

theorem wget (i : Int) (h : WBoth w₀ w b m size f l f' k) (hg : Good size f l) (hs : size ≤ 4096) :
    Calls Try.prog 25 #[.pointer (some ⟨b, 0, none⟩), .int .i64 i] w fun e w' => e = .returned (.tuple #[.int .i64 (thingI l i), .bool (hasF l i)]) ∧ WBoth w₀ w' b m size f l f' k ∧ OthersW w w' := by
  obtain ⟨ao, cap, ao', cap', p⟩ := h.two
  have hl := hg.len
  refine (get_c i _ b size cap f ao l w p.win hg.up (by omega)).mono ?_
  rintro e w' ⟨rfl, hB⟩
  exact ⟨rfl, h.keep hB, OthersW.old hB⟩

theorem wrget (i : Int) (h : WBoth w₀ w b m size f l f' k) (hg : Good size f' k) (hs : size ≤ 4096) :
    Calls Try.prog 26 #[.pointer (some ⟨m, 0, none⟩), .int .i64 i] w fun e w' => e = .returned (.tuple #[.int .i64 (thingI k i), .bool (hasF k i)]) ∧ w = w' := by
  obtain ⟨ao, cap, ao', cap', p⟩ := h.two
  have hl := hg.len
  exact rget_c i _ m size cap' f' ao' k w p.ref hg.up (by omega)
end

end Go.Proofs.Ytlfhffljepganaa.Rg
