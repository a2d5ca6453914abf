/- What At, Last, Push, Take and Pop of layer 4's rings return, and what they leave of the memory. -/
import Derived.Test.YtfifoikphhjomaaRgCalls
namespace Go.Proofs.Ytfifoikphhjomaa.Rg
open Go.RowKit
set_option linter.unusedVariables false

/-- the thing at i, and whether there is one. -/
def atB (l : List Int) (i : Int) : Bool := decide (0 ≤ i) && decide (i < l.length)
def atI (l : List Int) (i : Int) : Int := if atB l i = true then l[i.toNat]?.getD 0 else 0
theorem at_neg {l : List Int} {i : Int} (h : i < 0) : atB l i = false ∧ atI l i = 0 := by
  have : atB l i = false := by simp [atB]; omega
  exact ⟨this, by simp [atI, this]⟩
theorem at_far {l : List Int} {i : Int} (h : (l.length : Int) ≤ i) : atB l i = false ∧ atI l i = 0 := by
  have : atB l i = false := by simp [atB]; omega
  exact ⟨this, by simp [atI, this]⟩
theorem at_in {l : List Int} {k : Nat} (h : k < l.length) : atB l (k : Int) = true ∧ atI l (k : Int) = l[k]?.getD 0 := by
  have : atB l (k : Int) = true := by simp [atB]; omega
  exact ⟨this, by simp [atI, this]⟩

/-- what a list's growing by an append, and the field's store, make of a ring. -/
theorem push_step {w w1 : World} {n₀ t e b cap : Nat} {cs : List Value} {ao : Option Addr} {n m : Nat} {xs ys : List Value} {v' : Value} {q : Nat} {o : Obj} (h : Held w n₀ t e 1 b cs ao n cap xs) (hte : t ≠ e)
    (hown : w1.ownsRow n₀ e 1 v' m ys) (hg : ((w.drewN q).alloc o).grownBy w1 (Value.ownBlock (.slice ao n cap))) (hat : v'.ownBlock = Value.ownBlock (.slice ao n cap) ∨ v'.ownBlock = some ((w.drewN q).alloc o).heap.size) :
    Keeps (Foot b ao) w w1 ∧ w1.heap[b]? = w.heap[b]? ∧ ∃ ao' cap', v' = .slice ao' m cap' ∧ Near ao ao' w.heap.size := by
  have hk : Keeps (Foot b ao) w w1 := by
    refine (((Keeps.refl (Foot b ao) w).drew q).alloc o).grown hg ?_
    intro k hk _
    cases ao with
    | none => simp [Value.ownBlock] at hk
    | some a => exact .inr ⟨a, rfl, by simpa [Value.ownBlock] using hk.symm⟩
  refine ⟨hk, ?_, ?_⟩
  · refine (hg.block b ?_ ?_).trans ?_
    · have := h.lt; simp; omega
    · intro e'
      cases ao with
      | none => simp [Value.ownBlock] at e'
      | some a => exact h.apart hte a rfl (by simpa [Value.ownBlock] using e'.symm)
    · exact Below.heap_alloc _ _ _ h.lt
  · have hnear : ∀ ao' m' cap', v' = .slice ao' m' cap' → Near ao ao' w.heap.size := by
      rintro ao' m' cap' rfl a' rfl
      rcases hat with h1 | h1
      · cases ao with
        | none => simp [Value.ownBlock] at h1
        | some a => exact .inl ⟨a, rfl, by simpa [Value.ownBlock] using h1.symm⟩
      · refine .inr ?_
        simp [Value.ownBlock] at h1
        omega
    rcases hown.2 with ⟨h1, h2⟩ | ⟨g, cap', cur, h1, _⟩
    · exact ⟨none, 0, by rw [h1, h2], hnear _ _ _ h1⟩
    · exact ⟨_, cap', h1, hnear _ _ _ h1⟩

end Go.Proofs.Ytfifoikphhjomaa.Rg
