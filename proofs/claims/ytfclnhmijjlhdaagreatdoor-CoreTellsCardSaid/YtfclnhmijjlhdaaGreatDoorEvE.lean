/- Lists in order, and keys that rise, as the document asks it (layer 11, event). -/
import Derived.Test.YtfclnhmijjlhdaaGreatDoorEvD
namespace Go.Proofs.YtfclnhmijjlhdaaGreatDoor.Ev
open Go.RowKit Go.Sort
set_option linter.unusedVariables false

theorem mixed : Tryz.prog.follows .mixedOrders = true := by kernel_rfl

theorem up_take {l : List Ky} {m : Nat} {x y : Ky} (hy : l[m]? = some y) (hx : l[m + 1]? = some x) (h : up (l.take (m + 1))) (hlt : ltK y x) : up (l.take (m + 1 + 1)) := by
 rw [List.take_add_one, hx]
 refine up_snoc h x fun z hz => ?_
 have : (l.take (m + 1)).getLast? = some y := by
  rw [List.take_add_one, hy]
  simp
 rw [this] at hz
 injection hz with hz
 subst hz
 exact hlt
theorem up_one {l : List Ky} {x : Ky} (hx : l[0]? = some x) : up (l.take (0 + 1)) := by
 rw [List.take_add_one, hx]
 exact List.pairwise_singleton _ _
theorem up_bad {l : List Ky} {m : Nat} {x y : Ky} (hy : l[m]? = some y) (hx : l[m + 1]? = some x) (hlt : ¬ ltK y x) : ¬ up l := by
 intro h
 obtain ⟨h1, rfl⟩ := List.getElem?_eq_some_iff.1 hy
 obtain ⟨h2, rfl⟩ := List.getElem?_eq_some_iff.1 hx
 exact hlt (List.pairwise_iff_getElem.1 h m (m + 1) h1 h2 (by omega))
theorem up_end {l : List Ky} {L k : Nat} (hL : l.length = L) (hk : ¬ k < L) (h : up (l.take k)) : up l := by
 rwa [List.take_of_length_le (by omega)] at h
theorem keys_at {l : List Ev} {k : Nat} {x : Ev} (hx : l[k]? = some x) : (keys l)[k]? = some x.key := by simp [keys, hx]
theorem keys_take (l : List Ev) (k : Nat) : keys (l.take k) = (keys l).take k := by simp [keys, List.map_take]
theorem keys_len (l : List Ev) : (keys l).length = l.length := by simp [keys]

theorem takeW {P : Program} {ops : Array Oper} {Q : Exit → Act → World → Prop} {md : Region.Mode} {S : World → Prop} {i d : Nat} {oi : Oper} {v : Value} {fuel : Nat} {listed : Array Bool} {a : Act} {w : World} (hi : ops[i]? = some oi) (hd : oi.dst = some d)
 (hs : Region.noSelect ops = true) (hf : Region.free md ops listed i = true) (hr : (Region.ready md ops listed).contains i = true)
 (hQ : ∀ c a w, Q (.panic c) (a.put oi.dst v) w → Q (.panic c) a w) (hw : Region.wanted oi (yielded ops a.tmps) = true) (hy : ∀ w, S w → (execOp a.eval oi).run P w = .ok (.value v) w) (hS : S w)
 (h : wpAnyH P md ops Q S fuel (listed.setIfInBounds i true) (a.put (some d) v) w) : wpAnyH P md ops Q S (fuel + 1) listed a w :=
 wpAnyH_take hi hs hf hr hQ (.inl ⟨hw, hy⟩) hS (by rw [hd]; exact h)
theorem skipW {P : Program} {ops : Array Oper} {Q : Exit → Act → World → Prop} {md : Region.Mode} {S : World → Prop} {i d : Nat} {oi : Oper} {fuel : Nat} {listed : Array Bool} {a : Act} {w : World} (hi : ops[i]? = some oi) (hd : oi.dst = some d)
 (hs : Region.noSelect ops = true) (hf : Region.free md ops listed i = true) (hr : (Region.ready md ops listed).contains i = true)
 (hQ : ∀ c a w, Q (.panic c) (a.put oi.dst undef) w → Q (.panic c) a w) (hw : Region.wanted oi (yielded ops a.tmps) = false) (hS : S w)
 (h : wpAnyH P md ops Q S fuel (listed.setIfInBounds i true) (a.put (some d) undef) w) : wpAnyH P md ops Q S (fuel + 1) listed a w :=
 wpAnyH_take hi hs hf hr hQ (.inr ⟨hw, rfl⟩) hS (by rw [hd]; exact h)

end Go.Proofs.YtfclnhmijjlhdaaGreatDoor.Ev
