/- Pages that only grow, the chapter's example (layer 11, event). -/
import Derived.Test.YtfclnhmijjlhdaaGreatDoorEvAdd
namespace Go.Proofs.YtfclnhmijjlhdaaGreatDoor.Ev
open Go.RowKit Rg
set_option linter.unusedVariables false

/-- what a page's list is at all times. -/
def pageI (fr : Int) (l : List Ev) : Prop := l.all evB = true ∧ up (keys l) ∧ l.length ≤ 64 ∧ ∀ x ∈ l, x.key.f = fr ∧ x.key.o < (ordI l x : Int)
theorem page_nil (fr : Int) : pageI fr [] := ⟨rfl, List.Pairwise.nil, by simp, by simp⟩
theorem page_ord {fr : Int} {l : List Ev} (h : pageI fr l) : ordB l = true := by
 unfold ordB
 simp [h.1, h.2.1, h.2.2.1]
theorem ord_perm {a b : List Ev} (h : a.Perm b) (e : Ev) : ordI a e = ordI b e := (h.map Ev.key).countP_eq _
theorem ord_cons (x : Ev) (l : List Ev) (e : Ev) : ordI (x :: l) e = ordI l e + (if sameB e.key.e e.key.k x.key = true then 1 else 0) := by
 unfold ordI
 rw [keys, List.map_cons, List.countP_cons]
theorem add_inv {fr : Int} {l : List Ev} (h : pageI fr l) (e : Ev) : pageI fr (addR fr l e).1 := by
 unfold addR
 by_cases hE : evB (under fr 0 e) = true
 case neg => rw [if_neg hE]; exact h
 rw [if_pos hE]
 by_cases hF : 64 ≤ l.length ∨ 15 < ordI l e
 case pos => rw [if_pos hF]; exact h
 rw [if_neg hF]
 obtain ⟨h1, h2, h3, h4⟩ := h
 have hF1 : ¬ 64 ≤ l.length := fun hh => hF (.inl hh)
 have hF2 : ¬ 15 < ordI l e := fun hh => hF (.inr hh)
 generalize hx : under fr (ordI l e) e = x
 have xe : x.key.e = e.key.e := by rw [← hx]; rfl
 have xk : x.key.k = e.key.k := by rw [← hx]; rfl
 have xo : x.key.o = (ordI l e : Int) := by rw [← hx]; rfl
 have xf : x.key.f = fr := by rw [← hx]; rfl
 have hox : ordI l x = ordI l e := by unfold ordI; rw [xe, xk]
 have hEx : evB x = true := by
  rw [← hx]
  unfold evB keyB inB under at hE ⊢
  simp only [Bool.and_eq_true, decide_eq_true_eq] at hE ⊢
  omega
 have hp := put_perm x l
 have hnew : x.key ∉ keys l := by
  intro hm
  obtain ⟨y, hy, hk⟩ := List.mem_map.1 hm
  have := (h4 y hy).2
  have h5 : ordI l y = ordI l x := by unfold ordI; rw [hk]
  rw [h5, hox, hk, xo] at this
  omega
 have hnd : (keys (putL x l)).Nodup := by
  refine ((hp.map Ev.key).nodup_iff).2 ?_
  rw [List.map_cons, List.nodup_cons]
  exact ⟨hnew, up_nodup h2⟩
 refine ⟨?_, wk_up (put_wk x (up_wk h2)) hnd, ?_, ?_⟩
 · show (putL x l).all evB = true
   rw [all_perm hp, List.all_cons, hEx, h1]; rfl
 · show (putL x l).length ≤ 64
   rw [put_len]; omega
 · intro y hy
   have hy : y ∈ putL x l := hy
   have hy2 := hp.mem_iff.1 hy
   rw [show ordI ((putL x l, x.key, (0 : Int)).1) y = ordI (putL x l) y from rfl, ord_perm hp, ord_cons]
   rcases List.mem_cons.1 hy2 with rfl | hy2
   · refine ⟨xf, ?_⟩
     have : sameB y.key.e y.key.k y.key = true := by simp [sameB]
     rw [this, xo, hox]
     simp only [if_true]
     omega
   · refine ⟨(h4 y hy2).1, ?_⟩
     have := (h4 y hy2).2
     split <;> omega

theorem At.keeps {w w' : World} {b k : Nat} {ao : Option Addr} {cs : Array Value} {T : TypeId} (h : At w k cs T) (g : Keeps (Foot b ao) w w') (hb : k ≠ b) (ha : ∀ a, ao = some a → a.block ≠ k) : At w' k cs T := by
 have hl := h.lt
 unfold At at h ⊢
 rw [g.block k hl (by
  rintro (e | ⟨a, e, hk⟩)
  · exact hb e
  · exact ha a e hk.symm)]
 exact h
theorem evs_keeps {w w' : World} {b : Nat} {ao : Option Addr} {v : Value} {l : List Ev} (h : Evs w v l) (g : Keeps (Foot b ao) w w') (hv : ∀ k, v.ownBlock = some k → k ≠ b ∧ ∀ a, ao = some a → a.block ≠ k) : Evs w' v l := by
 obtain ⟨a, L, cap, rfl, h1, h2, h3, h4⟩ := h
 refine ⟨a, L, cap, rfl, h1, h2, h3, fun hp => ?_⟩
 obtain ⟨c, o, rfl, hc, hr⟩ := h4 hp
 obtain ⟨k1, k2⟩ := hv c rfl
 have hblk := g.block c hc (by
  rintro (e | ⟨a, e, hk⟩)
  · exact k1 e
  · exact k2 a e hk.symm)
 refine ⟨c, o, rfl, Nat.lt_of_lt_of_le hc g.size, fun j hj i u hu => ?_⟩
 have := hr j hj i u hu
 rw [← this]
 unfold World.cell?
 rw [hblk]

def ex1 : Ev := ⟨⟨0, 1, 1, 0⟩, 0, 0, 0, 0, 0⟩
theorem ex_one : (addR 7 [] ex1).2 = (⟨7, 1, 1, 0⟩, 0) := by decide +kernel
theorem ex_two : (addR 7 (addR 7 [] ex1).1 ex1).2 = (⟨7, 1, 1, 1⟩, 0) := by decide +kernel

end Go.Proofs.YtfclnhmijjlhdaaGreatDoor.Ev
