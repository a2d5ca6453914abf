/- What Repair of a core answers and leaves (layer 15, core). -/
import Derived.Test.YtfclnhmijjlhdaaGreatDoorCrRep
import Derived.Stop.RegionWithIn
import Derived.Maps.AppendAt
namespace Go.Proofs.YtfclnhmijjlhdaaGreatDoor.Cr
open Go.RowKit Go.Shelf
open Go.Proofs.YtfclnhmijjlhdaaGreatDoor.Rg
open Go.Proofs.YtfclnhmijjlhdaaGreatDoor.Fd (Fed takeM)
open Go.Proofs.YtfclnhmijjlhdaaGreatDoor.Gm (St stepP Ms Tab)
open Go.Proofs.YtfclnhmijjlhdaaGreatDoor.Ev (Ev Evs At bt br bal bd1 bdn flat flat_snoc)
open Go.Proofs.YtfclnhmijjlhdaaGreatDoor.Co (Co now common full other setN putAt putAt_len putAt_get play plays)
set_option linter.unusedVariables false
set_option maxRecDepth 100000

theorem info_page : (Tryz.prog.info? 51).map (fun i => (i.zero, i.size, i.bytes)) = some (some (.agg #[.int .i64 0, .slice none 0 0]), 2, 32) := by kernel_rfl
section
variable {W W' : World} {n₀ b : Nat} {bf : Nat → Nat} {FF : Nat → Nat → Prop} {ao : Option Addr} {cap : Nat} {bs : Nat}
/-- play, at a core. -/
theorem playc {c0 c : C} (hg : Gc c0 c) {f : Nat} (h1 : c0.first ≤ f) (h2 : f + 1 < c0.S.length) (hb : c0.S.length ≤ 1073741825) (hf : c0.S.length ≤ c0.first + 65) (htab : Tab W) (hn2 : 2 ≤ n₀) (h : CPc W n₀ b bf FF bs ao cap c) :
 Calls Tryz.prog 54 #[.pointer (some ⟨b, 0, none⟩), .int .i64 f] W fun e w' => ∃ x y z, e = .returned (.agg #[.int .i64 f, .slice x y z]) ∧ Evs w' (.slice x y z) (evAt c f) ∧
  (∃ FF' ao' cap', CPc w' n₀ b bf FF' bs ao' cap' (play stepP c f) ∧ (∀ i, GG b FF' bs ao' i → GG b FF bs ao i ∨ W.heap.size ≤ i) ∧ Keeps (GG b FF bs ao) W w' ∧
   (∀ j, (Value.slice x y z).ownBlock = some j → evAt c f ≠ [] → W.heap.size ≤ j ∧ ¬ GG b FF' bs ao' j)) ∧ Kd W w' := by
 have hl := hg.len
 have hfi := hg.same.2.2.2
 obtain ⟨s, hs⟩ : ∃ s, c.S[f]? = some s := ⟨_, List.getElem?_eq_getElem (by omega)⟩
 obtain ⟨q1, q2, _⟩ := hg.gd f s hs
 have hsd : (c.S.drop c.first)[f - c.first]? = some s := by rw [List.getElem?_drop, show c.first + (f - c.first) = f by omega]; exact hs
 have hev : evAt c f = (stepP s (Fd.tk (c.F 0) f) (Fd.tk (c.F 1) f)).2 := by unfold evAt; rw [hs]
 refine (play_c h (by rw [List.length_drop]; omega) (by omega) hsd (by omega) (by omega) q1 q2 (fun t ht => ⟨(hg.fed t ht).1, by rw [(hg.fed t ht).2]; omega⟩) htab hn2).mono ?_
 rintro e w' ⟨v, rfl, hE, -, ⟨FF', ao', cap', k1, k2, k3, k4⟩, kd⟩
 obtain ⟨x, y, z, ev, _⟩ := id hE
 subst ev
 rw [hev]
 exact ⟨x, y, z, rfl, hE, ⟨FF', ao', cap', cp_play hs (by omega) (by omega) k1, k2, k3, k4⟩, kd⟩
theorem now_play {c0 c : C} (hg : Gc c0 c) {f : Nat} (h2 : f + 1 < c0.S.length) (hb : f < 1073741824) : now (play stepP c f) = now c := by
 unfold now
 rw [(hg.play h2 hb).len, hg.len]
/-- a page more. -/
theorem Rz.more {W0 : World} {G0 : Nat → Prop} {B1 B4 Bn : Nat} {c : C} {E : List (List Ev)} {P : List (Int × Value)} {w1 w3 : World} {f : Nat} {x : Option Addr} {y z : Nat} {v : Value}
 (h : Rz W0 G0 W n₀ b bf bs B1 B4 Bn c E P) (hEP : E.length = P.length)
 {FF1 : Nat → Nat → Prop} {ao1 : Option Addr} {cap1 : Nat} (hcp : CPc W n₀ b bf FF bs ao cap c) (hnr : ∀ i, GG b FF bs ao i → G0 i ∨ W0.heap.size ≤ i) (hB4 : At W B4 #[v] 46) (hrow : W.ownsRow W0.heap.size 51 2 v P.length (flat pcs P))
 (hold : ∀ (j : Nat) (p : Int × Value) (e : List Ev), P[j]? = some p → E[j]? = some e → Evs W p.2 e ∧ ∀ g, p.2.ownBlock = some g → e ≠ [] → W0.heap.size ≤ g ∧ ¬ GG b FF bs ao g ∧ g ≠ B4 ∧ v.ownBlock ≠ some g)
 (hev : Evs w1 (.slice x y z) (evAt c f)) (hcp1 : CPc w1 n₀ b bf FF1 bs ao1 cap1 (play stepP c f)) (hn1 : ∀ i, GG b FF1 bs ao1 i → GG b FF bs ao i ∨ W.heap.size ≤ i) (hk1 : Keeps (GG b FF bs ao) W w1)
 (hv1 : ∀ j, (Value.slice x y z).ownBlock = some j → evAt c f ≠ [] → W.heap.size ≤ j ∧ ¬ GG b FF1 bs ao1 j) (kd : Kd W w1)
 {v' : Value} (hown : w3.ownsRow W0.heap.size 51 2 v' (P.length + 1) (flat pcs P ++ [.int .i64 f, .slice x y z])) (hgr : (w1.alloc (.cells #[.int .i64 f, .slice x y z] 51)).grownBy w3 v.ownBlock)
 (hv' : v'.ownBlock = v.ownBlock ∨ v'.ownBlock = some (w1.heap.size + 1)) (hnw : now (play stepP c f) = now c) :
 Rz W0 G0 (w3.setCell ⟨B4, 0, none⟩ v') n₀ b bf bs B1 B4 Bn (play stepP c f) (E ++ [evAt c f]) (P ++ [((f : Int), .slice x y z)]) ∧ KeepsOthers W (w3.setCell ⟨B4, 0, none⟩ v') ∧ Kc b Bn W (w3.setCell ⟨B4, 0, none⟩ v') := by
 have hB41 := kd _ _ _ hB4 (by decide)
 have hrowB : ∀ g, v.ownBlock = some g → ∃ cur, At W g cur 51 := by
  intro g hg
  rcases hrow.2 with ⟨rfl, _⟩ | ⟨g', cap', cur, rfl, _, hgb, _⟩
  · cases hg
  · simp [Value.ownBlock] at hg
    subst hg
    exact ⟨cur, hgb⟩
 have hrow1 : w1.ownsRow W0.heap.size 51 2 v P.length (flat pcs P) := owns_keeps hrow hk1 (fun g hg => by obtain ⟨cur, hc⟩ := hrowB g hg; exact hcp.apart hc (by decide))
 have hsz := h.kp.size
 have hsz1 := hk1.size
 obtain ⟨a1, a2, a3, a4, a5⟩ := Boxed.appended (W := w1) (w1 := w3) (n₀ := W0.heap.size) (B := B4) (t := 46) (e := 51) (size := 2) (v := v) (v' := v') (k := P.length) (m := P.length + 1) (tmp := .cells #[.int .i64 f, .slice x y z] 51) hB41 (by decide) hrow1 (by omega) h.ge hown hgr
 have k14 : Keeps (fun i => i = B4 ∨ v.ownBlock = some i) w1 (w3.setCell ⟨B4, 0, none⟩ v') := by
  have k2 : Keeps (fun i => i = B4 ∨ v.ownBlock = some i) w1 (w1.alloc (.cells #[.int .i64 f, .slice x y z] 51)) := Keeps.ofOld (bal (br w1) _) _
  have k3 := k2.grown hgr (fun j e _ => .inr e)
  exact k3.trans (keeps_cell w3 B4 0 v') (fun i _ e => .inl e)
 have hnS : ∀ i, GG b FF1 bs ao1 i → ¬ (i = B4 ∨ v.ownBlock = some i) := by
  rintro i hi (rfl | e)
  · exact hcp1.apart hB41 (by decide) hi
  · obtain ⟨cur, hc⟩ := hrowB i e
    exact hcp1.apart (kd _ _ _ hc (by decide)) (by decide) hi
 have hat : ∀ {B : Nat} {cs : Array Value}, At W B cs 27 → At (w3.setCell ⟨B4, 0, none⟩ v') B cs 27 := by
  intro B cs hB
  have hB1 := kd _ _ _ hB (by decide)
  unfold At
  rw [k14.block B hB1.lt ?_]
  · exact hB1
  · rintro (rfl | e)
    · have := Eq.trans (Eq.symm hB) hB4; simp at this
    · obtain ⟨cur, hc⟩ := hrowB B e
      have := Eq.trans (Eq.symm hB) hc; simp at this
 have hvlt : ∀ g, v.ownBlock = some g → g < W.heap.size := fun g hg => by obtain ⟨cur, hc⟩ := hrowB g hg; exact hc.lt
 have hfin : ∀ g, g < w1.heap.size → v.ownBlock ≠ some g → v'.ownBlock ≠ some g := by
  intro g hg hne e
  rcases hv' with h1 | h1
  · rw [h1] at e; exact hne e
  · rw [h1] at e; cases e; omega
 refine ⟨⟨⟨FF1, ao1, cap1, v', hcp1.keeps k14 hnS, ?_, a2, ?_, ?_⟩, ?_, hat h.rv, hat h.it, h.ge⟩, ?_, ?_, ?_⟩
 · intro i hi
   rcases hn1 i hi with h1 | h1
   · exact hnr i h1
   · exact .inr (by omega)
 · rw [List.length_append, flat_snoc]
   exact a3
 · intro j p e hp he
   by_cases hj : j < P.length
   · rw [List.getElem?_append_left hj] at hp
     rw [List.getElem?_append_left (by omega)] at he
     obtain ⟨h1, h2⟩ := hold j p e hp he
     have h3 : ∀ g, p.2.ownBlock = some g → e ≠ [] → g < W.heap.size := fun g hg hl => evs_lt h1 hg hl
     refine ⟨evs_keeps (evs_keeps h1 hk1 (fun g hg hl => (h2 g hg hl).2.1)) k14 (fun g hg hl => ?_), fun g hg hl => ?_⟩
     · obtain ⟨_, _, h5, h6⟩ := h2 g hg hl
       rintro (e' | e')
       · exact h5 e'
       · exact h6 e'
     · obtain ⟨h4, h5, h6, h7⟩ := h2 g hg hl
       refine ⟨h4, fun hg2 => ?_, h6, hfin g (by have := h3 g hg hl; omega) h7⟩
       rcases hn1 g hg2 with h8 | h8
       · exact h5 h8
       · have := h3 g hg hl; omega
   · have hjl : j = P.length := by
      have := (List.getElem?_eq_some_iff.1 hp).1
      simp at this
      omega
     subst hjl
     rw [List.getElem?_append_right (by omega)] at hp
     rw [List.getElem?_append_right (by omega)] at he
     simp at hp
     rw [show P.length - E.length = 0 by omega] at he
     simp at he
     subst hp
     subst he
     have hB4lt := hB4.lt
     have hgs : ∀ g, (Value.slice x y z).ownBlock = some g → evAt c f ≠ [] → g ≠ B4 ∧ v.ownBlock ≠ some g := fun g hg hl => by
      have := (hv1 g hg hl).1
      exact ⟨by omega, fun e => by have := hvlt g e; omega⟩
     refine ⟨evs_keeps hev k14 (fun g hg hl => ?_), fun g hg hl => ?_⟩
     · obtain ⟨h5, h6⟩ := hgs g hg hl
       rintro (e' | e')
       · exact h5 e'
       · exact h6 e'
     · obtain ⟨h5, h6⟩ := hgs g hg hl
       obtain ⟨h7, h8⟩ := hv1 g hg hl
       exact ⟨by omega, h8, h5, hfin g (evs_lt hev hg hl) h6⟩
 · refine keeps_mono (keeps_mono h.kp hk1 (fun i hi => hnr i hi)) k14 ?_
   rintro i (rfl | e)
   · exact .inr h.ge
   · rcases hrow.2 with ⟨rfl, _⟩ | ⟨g', cap', cur, rfl, hg0, hgb, _⟩
     · cases e
     · simp [Value.ownBlock] at e
       subst e
       exact .inr hg0
 · refine KeepsOthers.trans ⟨hsz1, fun i o hi ho => ?_⟩ a4
   rw [hk1.block i (Array.getElem?_eq_some_iff.1 hi).1 (fun hg => by
    obtain ⟨cs, T, e⟩ := hcp.cellsG hg
    rw [hi] at e
    cases e
    cases ho)]
   exact hi
 · exact Eq.trans (hat h.it) (Eq.symm h.it)
 · have e1 := (hcp1.keeps k14 hnS).cells.2.2.2.2.2.2
   have e2 := hcp.cells.2.2.2.2.2.2
   rw [e1, e2, hnw]
end
end Go.Proofs.YtfclnhmijjlhdaaGreatDoor.Cr
