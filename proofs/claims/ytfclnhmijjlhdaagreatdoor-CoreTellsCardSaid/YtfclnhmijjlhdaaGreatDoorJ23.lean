/- Plain facts for layer 15 (core): the states of a core as its window holds them, by frames; what play and Free make of them. Of no program. -/
/- Objects: what lies in a set of blocks that its calls alone may write; what is left of it by a call; rows of cells by their types. Plain facts on worlds, of no program. -/
/- A core in memory: a struct, two feeds, a window of states (layer 15, core); what its parts' calls make of it. -/
/- What the small calls of a core answer (layer 15, core): mine, theirs, Ours, Theirs, Common, Current, isFarAhead, Settled; calls of a nil core. -/
/- Calls of a core's parts, while the core is on its way (layer 15, core). -/
import Derived.Test.YtfclnhmijjlhdaaGreatDoorJ21
import Derived.Test.YtfclnhmijjlhdaaGreatDoorJ17
import Derived.Test.YtfclnhmijjlhdaaGreatDoorJ6
import Derived.Test.YtfclnhmijjlhdaaGreatDoorJ20
import Derived.Deep.DeepCutAuto
namespace Go.Proofs.YtfclnhmijjlhdaaGreatDoor.Cr
open Go.Proofs.YtfclnhmijjlhdaaGreatDoor.Gm (St zeroS stepP)
open Go.Proofs.YtfclnhmijjlhdaaGreatDoor.Ev (Ev)
open Go.Proofs.YtfclnhmijjlhdaaGreatDoor.Sw (Rising lo lo_le lo_lt hasF hasF_some hasF_none thingS putL own1)
open Go.Proofs.YtfclnhmijjlhdaaGreatDoor.Co (Co now common full other setN putAt putAt_len putAt_get play)
set_option linter.unusedVariables false

abbrev FD := Go.Proofs.YtfclnhmijjlhdaaGreatDoor.Fd.Fd
abbrev C := Co St (List Ev)

/-- states by frames, from frame a on. -/
def fr : Nat → List St → List (Int × St)
 | _, [] => []
 | a, s :: l => ((a : Int), s) :: fr (a + 1) l
theorem fr_len : ∀ (a : Nat) (l : List St), (fr a l).length = l.length
 | _, [] => rfl
 | a, s :: l => by rw [fr, List.length_cons, List.length_cons, fr_len]
theorem fr_get : ∀ (a : Nat) (l : List St) (j : Nat), (fr a l)[j]? = (l[j]?).map fun s => (((a + j : Nat) : Int), s)
 | _, [], _ => rfl
 | a, s :: l, 0 => rfl
 | a, s :: l, j + 1 => by
  rw [fr, List.getElem?_cons_succ, List.getElem?_cons_succ, fr_get (a + 1) l j, show a + 1 + j = a + (j + 1) by omega]
theorem fr_append : ∀ (a : Nat) (l k : List St), fr a (l ++ k) = fr a l ++ fr (a + l.length) k
 | _, [], _ => rfl
 | a, s :: l, k => by
  rw [List.cons_append, fr, fr, fr_append (a + 1) l k, List.cons_append, List.length_cons, show a + 1 + l.length = a + (l.length + 1) by omega]
theorem fr_take : ∀ (a n : Nat) (l : List St), (fr a l).take n = fr a (l.take n)
 | _, 0, l => by simp [fr]
 | _, _ + 1, [] => rfl
 | a, n + 1, s :: l => by rw [fr, List.take_succ_cons, List.take_succ_cons, fr, fr_take (a + 1) n l]
theorem fr_drop : ∀ (a n : Nat) (l : List St), (fr a l).drop n = fr (a + n) (l.drop n)
 | _, 0, l => rfl
 | _, _ + 1, [] => rfl
 | a, n + 1, s :: l => by rw [fr, List.drop_succ_cons, List.drop_succ_cons, fr_drop (a + 1) n l, show a + 1 + n = a + (n + 1) by omega]
theorem fr_rising (a : Nat) (l : List St) : Rising (fr a l) := by
 unfold Rising
 rw [List.pairwise_iff_getElem]
 intro i j hi hj hij
 have h1 := fr_get a l i
 have h2 := fr_get a l j
 rw [fr_len] at hi hj
 rw [List.getElem?_eq_getElem (by rw [fr_len]; exact hi), List.getElem?_eq_getElem hi] at h1
 rw [List.getElem?_eq_getElem (by rw [fr_len]; exact hj), List.getElem?_eq_getElem hj] at h2
 simp only [Option.map_some, Option.some.injEq] at h1 h2
 rw [h1, h2]
 simp only
 omega
theorem lo_fr (f : Int) : ∀ (a : Nat) (l : List St), lo (fr a l) f = min l.length (f - a).toNat
 | a, [] => by simp [fr, lo]
 | a, s :: l => by
  rw [fr]
  by_cases h : (a : Int) < f
  · rw [Sw.lo_cons_yes h, lo_fr f (a + 1) l, List.length_cons]
    omega
  · rw [Sw.lo_cons_no h]
    omega
theorem lo_in {a : Nat} {l : List St} {k : Nat} (h1 : a ≤ k) (h2 : k ≤ a + l.length) : lo (fr a l) (k : Int) = k - a := by rw [lo_fr]; omega
theorem hasF_fr (a : Nat) (l : List St) (f : Int) : hasF (fr a l) f = decide ((a : Int) ≤ f ∧ f < ((a + l.length : Nat) : Int)) := by
 cases hx : (fr a l)[lo (fr a l) f]? with
 | none =>
  rw [hasF_none hx]
  have := List.getElem?_eq_none_iff.1 hx
  rw [fr_len, lo_fr] at this
  symm
  rw [decide_eq_false_iff_not]
  omega
 | some p =>
  rw [hasF_some hx]
  rw [fr_get] at hx
  cases hy : l[lo (fr a l) f]? with
  | none => rw [hy] at hx; cases hx
  | some s =>
   rw [hy] at hx
   have hl := (List.getElem?_eq_some_iff.1 hy).1
   simp only [Option.map_some, Option.some.injEq] at hx
   subst hx
   rw [lo_fr] at hl ⊢
   rw [Bool.eq_iff_iff]
   simp only [beq_iff_eq, decide_eq_true_eq]
   omega
theorem thing_fr {a : Nat} {l : List St} {k : Nat} (h1 : a ≤ k) {s : St} (h2 : l[k - a]? = some s) : thingS (fr a l) (k : Int) = s := by
 have hl := (List.getElem?_eq_some_iff.1 h2).1
 unfold thingS
 rw [lo_in h1 (by omega), fr_get, h2]
 simp only [Option.map_some]
 rw [if_pos]
 simp only [beq_iff_eq]
 omega
theorem thing_no {a : Nat} {l : List St} {f : Int} (h : ¬ ((a : Int) ≤ f ∧ f < ((a + l.length : Nat) : Int))) : thingS (fr a l) f = zeroS := by
 have h0 : hasF (fr a l) f = false := by rw [hasF_fr]; simpa using h
 unfold thingS
 cases hx : (fr a l)[lo (fr a l) f]? with
 | none => rfl
 | some p =>
  rw [hasF_some hx] at h0
  simp [h0]
theorem put_fr {a : Nat} {l : List St} {k : Nat} (h1 : a ≤ k) (h2 : k < a + l.length) (s : St) : putL (fr a l) (k : Int) s = fr a (putAt l (k - a) s) := by
 have hh : hasF (fr a l) (k : Int) = true := by rw [hasF_fr]; simp; omega
 unfold putL own1
 rw [if_pos hh, lo_in h1 (by omega), fr_take, fr_drop]
 unfold putAt
 rw [fr_append, fr, List.length_take, show min (k - a) l.length = k - a by omega, show a + (k - a) = k by omega, show a + (k - a + 1) = k + 1 by omega]
theorem snoc_fr {a : Nat} {l : List St} {k : Nat} (h : k = a + l.length) (s : St) : fr a l ++ [((k : Int), s)] = fr a (putAt l (k - a) s) := by
 subst h
 unfold putAt
 rw [show a + l.length - a = l.length by omega, List.take_of_length_le (Nat.le_refl _), List.drop_eq_nil_of_le (by omega), fr_append]
 rfl
theorem drop_put {l : List St} {a i : Nat} (h1 : a ≤ i) (h2 : i ≤ l.length) (s : St) : (putAt l i s).drop a = putAt (l.drop a) (i - a) s := by
 apply List.ext_getElem?
 intro j
 rw [List.getElem?_drop, putAt_get _ _ _ h2, putAt_get _ _ _ (by rw [List.length_drop]; omega), List.getElem?_drop]
 by_cases h : a + j = i
 · rw [if_pos h, if_pos (by omega)]
 · rw [if_neg h, if_neg (by omega)]

/-- the states of a core that its window holds. -/
def wl (c : C) : List (Int × St) := fr c.first (c.S.drop c.first)
end Go.Proofs.YtfclnhmijjlhdaaGreatDoor.Cr

namespace Go.Proofs.YtfclnhmijjlhdaaGreatDoor.Ob
open Go.RowKit Go.Proofs.YtfclnhmijjlhdaaGreatDoor.Rg

/-- P holds of some set of blocks, which are F's or new; all other blocks are as they were. -/
structure Lft (P : World → (Nat → Prop) → Prop) (F : Nat → Prop) (w w' : World) : Prop where
 ex : ∃ F', P w' F' ∧ ∀ i, F' i → F i ∨ w.heap.size ≤ i
 keeps : Keeps F w w'
theorem Lft.same {P : World → (Nat → Prop) → Prop} {F : Nat → Prop} {w w' : World} (h : P w' F) (k : Below w.heap.size w w') : Lft P F w w' := ⟨⟨F, h, fun _ hi => .inl hi⟩, Keeps.ofOld k _⟩
theorem Lft.trans {P : World → (Nat → Prop) → Prop} {F F1 : Nat → Prop} {a w w' : World} (hn : ∀ i, F1 i → F i ∨ a.heap.size ≤ i) (hk : Keeps F a w) (h : Lft P F1 w w') : Lft P F a w' := by
 obtain ⟨F', hc, hn'⟩ := h.ex
 refine ⟨⟨F', hc, fun i hi => ?_⟩, hk.trans h.keeps ?_⟩
 · rcases hn' i hi with h1 | h1
   · exact hn i h1
   · exact .inr (Nat.le_trans hk.size h1)
 · intro i hi hf
   rcases hn i hf with h1 | h1
   · exact h1
   · omega
theorem Lft.imp {P Q : World → (Nat → Prop) → Prop} {F : Nat → Prop} {w w' : World} (h : Lft P F w w') (hq : ∀ F', P w' F' → Q w' F') : Lft Q F w w' := by
 obtain ⟨F', h1, h2⟩ := h.ex
 exact ⟨⟨F', hq _ h1, h2⟩, h.keeps⟩
/-- of what lay ahead of all of it. -/
theorem Lft.at {P : World → (Nat → Prop) → Prop} {F : Nat → Prop} {n : Nat} {w0 w w' : World} (h : Lft P F w w') (hn : n ≤ w.heap.size) (hF : ∀ i, F i → n ≤ i) (hB : Below n w0 w) : ∃ F', P w' F' ∧ (∀ i, F' i → n ≤ i) ∧ Below n w0 w' := by
 obtain ⟨F', h1, h2⟩ := h.ex
 refine ⟨F', h1, fun i hi => ?_, hB.trans (h.keeps.below hn hF)⟩
 rcases h2 i hi with h3 | h3
 · exact hF i h3
 · omega

/-- the block of a row: its type. -/
theorem row_kind {w : World} {n e sz : Nat} {v : Value} {m : Nat} {xs : List Value} (h : w.ownsRow n e sz v m xs) {g : Nat} (hg : v.ownBlock = some g) : ∃ cur, w.heap[g]? = some (.cells cur e (0, 0)) ∧ n ≤ g := by
 rcases h.2 with ⟨rfl, _⟩ | ⟨g', cap, cur, rfl, h1, h2, _⟩
 · simp [Value.ownBlock] at hg
 · simp [Value.ownBlock] at hg
   subst hg
   exact ⟨cur, h2, h1⟩
theorem row_apart {w : World} {n n' e e' sz sz' : Nat} {v v' : Value} {m m' : Nat} {xs xs' : List Value} (h : w.ownsRow n e sz v m xs) (h' : w.ownsRow n' e' sz' v' m' xs') (hne : e ≠ e') {g : Nat} (hg : v.ownBlock = some g) : ¬ v'.ownBlock = some g := by
 intro hg'
 obtain ⟨c, h1, _⟩ := row_kind h hg
 obtain ⟨c', h2, _⟩ := row_kind h' hg'
 have := h1.symm.trans h2
 simp at this
 exact hne this.2
theorem row_not {w : World} {n e sz t b : Nat} {v : Value} {m : Nat} {xs : List Value} {cs : Array Value} (h : w.ownsRow n e sz v m xs) (hb : w.heap[b]? = some (.cells cs t (0, 0))) (hne : t ≠ e) : ¬ v.ownBlock = some b := by
 intro hg
 obtain ⟨c, h1, _⟩ := row_kind h hg
 have := hb.symm.trans h1
 simp at this
 exact hne this.2
theorem row_lt {w : World} {n e sz : Nat} {v : Value} {m : Nat} {xs : List Value} (h : w.ownsRow n e sz v m xs) {g : Nat} (hg : v.ownBlock = some g) : g < w.heap.size := by
 obtain ⟨c, h1, _⟩ := row_kind h hg
 exact (Array.getElem?_eq_some_iff.1 h1).1
theorem row_mono {w : World} {n n' e sz : Nat} {v : Value} {m : Nat} {xs : List Value} (h : w.ownsRow n e sz v m xs) (hn : n' ≤ n) : w.ownsRow n' e sz v m xs := by
 refine ⟨h.1, ?_⟩
 rcases h.2 with h1 | ⟨g, cap, cur, h1, h2, h3⟩
 · exact .inl h1
 · exact .inr ⟨g, cap, cur, h1, by omega, h3⟩

end Go.Proofs.YtfclnhmijjlhdaaGreatDoor.Ob

namespace Go.Proofs.YtfclnhmijjlhdaaGreatDoor.Cr
open Go.RowKit Go.Proofs.YtfclnhmijjlhdaaGreatDoor.Rg
open Go.Proofs.YtfclnhmijjlhdaaGreatDoor.Fd (Fed)
open Go.Proofs.YtfclnhmijjlhdaaGreatDoor.Gm (St stC zeroS stepP)
open Go.Proofs.YtfclnhmijjlhdaaGreatDoor.Ev (Ev At bt br bal bd1 bdn)
open Go.Proofs.YtfclnhmijjlhdaaGreatDoor.Sw (Rising lo lo_le lo_lt hasF hasF_some hasF_none thingS putL own1)
open Go.Proofs.YtfclnhmijjlhdaaGreatDoor.Co (Co now common full other setN putAt putAt_len putAt_get play)
set_option linter.unusedVariables false
set_option maxRecDepth 100000

/-- what a letter stands for, but x at t. -/
def up {α : Type} (f : Nat → α) (t : Nat) (x : α) : Nat → α := fun j => if j = t then x else f j
theorem up_same {α : Type} (f : Nat → α) (t : Nat) (x : α) : up f t x t = x := by simp [up]
theorem up_other {α : Type} (f : Nat → α) {t j : Nat} (x : α) (h : j ≠ t) : up f t x j = f j := by simp [up, h]

/-- the blocks that a core's calls may write. -/
def GG (b : Nat) (FF : Nat → Nat → Prop) (bs : Nat) (ao : Option Addr) (i : Nat) : Prop := i = b ∨ FF 0 i ∨ FF 1 i ∨ Foot bs ao i
theorem GG.fed {b : Nat} {FF : Nat → Nat → Prop} {bs : Nat} {ao : Option Addr} {t : Nat} (ht : t < 2) {i : Nat} (h : FF t i) : GG b FF bs ao i := by
 rcases t with _ | _ | t
 · exact .inr (.inl h)
 · exact .inr (.inr (.inl h))
 · omega

/-- a core's parts: the struct in block b, its feeds (blocks bf 0, bf 1; they may write FF 0, FF 1), its window (block bs, list ao). -/
structure CP (w : World) (n₀ b : Nat) (bf : Nat → Nat) (FF : Nat → Nat → Prop) (bs : Nat) (ao : Option Addr) (cap d wi me : Nat) (m : Nat → FD) (cur : Nat) (fi : Int) (l : List (Int × St)) : Prop where
 block : w.heap[b]? = some (.cells #[.int .i64 d, .int .i64 wi, .int .i64 me, .pointer (some ⟨bf 0, 0, none⟩), .pointer (some ⟨bf 1, 0, none⟩), .pointer (some ⟨bs, 0, none⟩), .int .i64 cur] 85 (0, 0))
 ge : n₀ ≤ b
 fed : ∀ t, t < 2 → Fed w n₀ (bf t) (FF t) (m t)
 win : Sw.Win w n₀ 129 132 bs 65 fi ao cap l
 ap : ∀ i, FF 0 i → ¬ FF 1 i

section
variable {w w' : World} {n₀ b : Nat} {bf : Nat → Nat} {FF : Nat → Nat → Prop} {bs : Nat} {ao : Option Addr} {cap d wi me : Nat} {m : Nat → FD} {cur : Nat} {fi : Int} {l : List (Int × St)}
theorem CP.lt (h : CP w n₀ b bf FF bs ao cap d wi me m cur fi l) : b < w.heap.size := (Array.getElem?_eq_some_iff.1 h.block).1
theorem CP.cells (h : CP w n₀ b bf FF bs ao cap d wi me m cur fi l) : w.cell? ⟨b, 0, none⟩ = some (.int .i64 d) ∧ w.cell? ⟨b, 1, none⟩ = some (.int .i64 wi) ∧ w.cell? ⟨b, 2, none⟩ = some (.int .i64 me) ∧ w.cell? ⟨b, 3, none⟩ = some (.pointer (some ⟨bf 0, 0, none⟩)) ∧ w.cell? ⟨b, 4, none⟩ = some (.pointer (some ⟨bf 1, 0, none⟩)) ∧ w.cell? ⟨b, 5, none⟩ = some (.pointer (some ⟨bs, 0, none⟩)) ∧ w.cell? ⟨b, 6, none⟩ = some (.int .i64 cur) := by
 refine ⟨?_, ?_, ?_, ?_, ?_, ?_, ?_⟩ <;> (rw [cell_of_row w b _ _ _ _ h.block]; rfl)
theorem CP.frozen (h : CP w n₀ b bf FF bs ao cap d wi me m cur fi l) (j : Nat) : w.frozen? ⟨b, j, none⟩ = false := frozen_of_row w b j _ _ h.block
/-- of what types the window's blocks are. -/
theorem CP.kindW (h : CP w n₀ b bf FF bs ao cap d wi me m cur fi l) {i : Nat} (hi : Foot bs ao i) : ∃ cs, w.heap[i]? = some (.cells cs 129 (0, 0)) ∨ w.heap[i]? = some (.cells cs 132 (0, 0)) := by
 rcases hi with rfl | ⟨a, ha, rfl⟩
 · exact ⟨_, .inl h.win.block⟩
 · rcases h.win.form with ⟨h4, _⟩ | ⟨g, cur, h4, _, hg, _⟩
   · rw [h4] at ha; cases ha
   · rw [h4] at ha; cases ha
     exact ⟨cur, .inr hg⟩
theorem CP.bF (h : CP w n₀ b bf FF bs ao cap d wi me m cur fi l) {t : Nat} (ht : t < 2) : ¬ FF t b := by
 intro hi
 obtain ⟨cs, T, h1, h2⟩ := (h.fed t ht).kind hi
 have := h.block.symm.trans h1
 simp at this
 obtain ⟨_, e⟩ := this
 subst e
 rcases h2 with h2 | h2 | h2 | h2 | h2 <;> exact absurd h2 (by decide)
theorem CP.bW (h : CP w n₀ b bf FF bs ao cap d wi me m cur fi l) : ¬ Foot bs ao b := by
 intro hi
 obtain ⟨cs, h1 | h1⟩ := h.kindW hi
 · have := h.block.symm.trans h1; simp at this
 · have := h.block.symm.trans h1; simp at this
theorem CP.fW (h : CP w n₀ b bf FF bs ao cap d wi me m cur fi l) {t : Nat} (ht : t < 2) : ∀ i, FF t i → ¬ Foot bs ao i := by
 intro i hi hj
 obtain ⟨cs, T, h1, h2⟩ := (h.fed t ht).kind hi
 obtain ⟨cs', h3 | h3⟩ := h.kindW hj
 · have := h1.symm.trans h3
   simp at this
   obtain ⟨_, e⟩ := this
   subst e
   rcases h2 with h2 | h2 | h2 | h2 | h2 <;> exact absurd h2 (by decide)
 · have := h1.symm.trans h3
   simp at this
   obtain ⟨_, e⟩ := this
   subst e
   rcases h2 with h2 | h2 | h2 | h2 | h2 <;> exact absurd h2 (by decide)
theorem CP.gge (h : CP w n₀ b bf FF bs ao cap d wi me m cur fi l) : ∀ i, GG b FF bs ao i → n₀ ≤ i := by
 rintro i (rfl | hi | hi | hi)
 · exact h.ge
 · exact (h.fed 0 (by omega)).ge i hi
 · exact (h.fed 1 (by omega)).ge i hi
 · exact h.win.footGe i hi
theorem CP.glt (h : CP w n₀ b bf FF bs ao cap d wi me m cur fi l) : ∀ i, GG b FF bs ao i → i < w.heap.size := by
 rintro i (rfl | hi | hi | hi)
 · exact h.lt
 · exact (h.fed 0 (by omega)).lt i hi
 · exact (h.fed 1 (by omega)).lt i hi
 · exact h.win.footLt i hi
theorem CP.keeps {S : Nat → Prop} (h : CP w n₀ b bf FF bs ao cap d wi me m cur fi l) (k : Keeps S w w') (hs : ∀ i, GG b FF bs ao i → ¬ S i) : CP w' n₀ b bf FF bs ao cap d wi me m cur fi l :=
 ⟨(k.block b h.lt (hs b (.inl rfl))).trans h.block, h.ge, fun t ht => (h.fed t ht).keeps k (fun i hi => hs i (GG.fed ht hi)), h.win.keeps k (fun i hi => hs i (.inr (.inr (.inr hi)))), h.ap⟩
theorem CP.old (h : CP w n₀ b bf FF bs ao cap d wi me m cur fi l) (k : Below w.heap.size w w') : CP w' n₀ b bf FF bs ao cap d wi me m cur fi l := h.keeps (Keeps.ofOld k (fun _ => False)) (fun _ _ e => e)
/-- one of its feeds was changed. -/
theorem CP.setF (h : CP w n₀ b bf FF bs ao cap d wi me m cur fi l) {t : Nat} (ht : t < 2) {m' : FD} (L : Go.Proofs.YtfclnhmijjlhdaaGreatDoor.Fd.Left n₀ (bf t) (FF t) m' w w') :
 ∃ F', CP w' n₀ b bf (up FF t F') bs ao cap d wi me (up m t m') cur fi l ∧ ∀ i, F' i → FF t i ∨ w.heap.size ≤ i := by
 obtain ⟨F', h1, h2⟩ := L.ex
 have hk := L.keeps
 have hoth : ∀ s, s < 2 → s ≠ t → ∀ i, FF s i → ¬ FF t i := by
  intro s hs hst i hi hj
  rcases (show (s = 0 ∧ t = 1) ∨ (s = 1 ∧ t = 0) by omega) with ⟨rfl, rfl⟩ | ⟨rfl, rfl⟩
  · exact h.ap i hi hj
  · exact h.ap i hj hi
 refine ⟨F', ⟨(hk.block b h.lt (h.bF ht)).trans h.block, h.ge, ?_, h.win.keeps hk (fun i hi hj => h.fW ht i hj hi), ?_⟩, h2⟩
 · intro s hs
   by_cases e : s = t
   · subst e; rw [up_same, up_same]; exact h1
   · rw [up_other _ _ e, up_other _ _ e]
     exact (h.fed s hs).keeps hk (hoth s hs e)
 · intro i h3 h4
   rcases (show t = 0 ∨ t = 1 by omega) with rfl | rfl
   · rw [up_same] at h3
     rw [up_other _ _ (by omega)] at h4
     rcases h2 i h3 with h5 | h5
     · exact h.ap i h5 h4
     · have := (h.fed 1 (by omega)).lt i h4; omega
   · rw [up_same] at h4
     rw [up_other _ _ (by omega)] at h3
     rcases h2 i h4 with h5 | h5
     · exact h.ap i h3 h5
     · have := (h.fed 0 (by omega)).lt i h3; omega
/-- its window was changed. -/
theorem CP.setW (h : CP w n₀ b bf FF bs ao cap d wi me m cur fi l) {ao' : Option Addr} {cap' : Nat} {fi' : Int} {l' : List (Int × St)} (hw : Sw.Win w' n₀ 129 132 bs 65 fi' ao' cap' l') (k : Keeps (Foot bs ao) w w') :
 CP w' n₀ b bf FF bs ao' cap' d wi me m cur fi' l' :=
 ⟨(k.block b h.lt h.bW).trans h.block, h.ge, fun t ht => (h.fed t ht).keeps k (h.fW ht), hw, h.ap⟩
theorem CP.setC (h : CP w n₀ b bf FF bs ao cap d wi me m cur fi l) (c' : Nat) : CP (w.setCell ⟨b, 6, none⟩ (.int .i64 (c' : Int))) n₀ b bf FF bs ao cap d wi me m c' fi l := by
 have k : Keeps (fun i => i = b) w (w.setCell ⟨b, 6, none⟩ (.int .i64 (c' : Int))) := (Keeps.refl (fun i => i = b) w).setCell (p := ⟨b, 6, none⟩) (fun _ => rfl) _
 refine ⟨?_, h.ge, fun t ht => (h.fed t ht).keeps k (fun i hi e => h.bF ht (e ▸ hi)), h.win.keeps k (fun i hi e => h.bW (e ▸ hi)), h.ap⟩
 exact heap_setCell_same w b 6 _ _ _ h.block
end

/-- a core on its way since world a, where it might write G. -/
def Cz (a : World) (G : Nat → Prop) (W : World) (n₀ b : Nat) (bf : Nat → Nat) (bs d wi me : Nat) (m : Nat → FD) (cur : Nat) (fi : Int) (l : List (Int × St)) : Prop :=
 ∃ FF ao cap, CP W n₀ b bf FF bs ao cap d wi me m cur fi l ∧ (∀ i, GG b FF bs ao i → G i ∨ a.heap.size ≤ i) ∧ Keeps G a W

section
variable {a : World} {G : Nat → Prop} {W W' : World} {n₀ b : Nat} {bf : Nat → Nat} {bs d wi me : Nat} {m : Nat → FD} {cur : Nat} {fi : Int} {l : List (Int × St)}
theorem Cz.cells (h : Cz a G W n₀ b bf bs d wi me m cur fi l) : W.cell? ⟨b, 0, none⟩ = some (.int .i64 d) ∧ W.cell? ⟨b, 1, none⟩ = some (.int .i64 wi) ∧ W.cell? ⟨b, 2, none⟩ = some (.int .i64 me) ∧ W.cell? ⟨b, 3, none⟩ = some (.pointer (some ⟨bf 0, 0, none⟩)) ∧ W.cell? ⟨b, 4, none⟩ = some (.pointer (some ⟨bf 1, 0, none⟩)) ∧ W.cell? ⟨b, 5, none⟩ = some (.pointer (some ⟨bs, 0, none⟩)) ∧ W.cell? ⟨b, 6, none⟩ = some (.int .i64 cur) := by
 obtain ⟨FF, ao, cap, h1, _⟩ := h
 exact h1.cells
theorem Cz.frozen (h : Cz a G W n₀ b bf bs d wi me m cur fi l) (j : Nat) : W.frozen? ⟨b, j, none⟩ = false := by
 obtain ⟨FF, ao, cap, h1, _⟩ := h
 exact h1.frozen j
theorem Cz.size (h : Cz a G W n₀ b bf bs d wi me m cur fi l) : a.heap.size ≤ W.heap.size := by
 obtain ⟨FF, ao, cap, _, _, h1⟩ := h
 exact h1.size
theorem Cz.keeps (h : Cz a G W n₀ b bf bs d wi me m cur fi l) : Keeps G a W := by
 obtain ⟨FF, ao, cap, _, _, h1⟩ := h
 exact h1
theorem Cz.below (h : Cz a G W n₀ b bf bs d wi me m cur fi l) (g : Below W.heap.size W W') : Cz a G W' n₀ b bf bs d wi me m cur fi l := by
 obtain ⟨FF, ao, cap, h1, h2, h3⟩ := h
 exact ⟨FF, ao, cap, h1.old g, h2, h3.trans (Keeps.ofOld g (fun _ => False)) (fun _ _ e => e.elim)⟩
theorem keeps_mono {G S : Nat → Prop} {x y z : World} (h : Keeps G x y) (k : Keeps S y z) (hs : ∀ i, S i → G i ∨ x.heap.size ≤ i) : Keeps G x z := by
 refine h.trans k fun i hi hf => ?_
 rcases hs i hf with h1 | h1
 · exact h1
 · omega
/-- a feed's call. -/
theorem cz_F {FF : Nat → Nat → Prop} {ao : Option Addr} {cap : Nat} (h1 : CP W n₀ b bf FF bs ao cap d wi me m cur fi l) (h2 : ∀ i, GG b FF bs ao i → G i ∨ a.heap.size ≤ i) (h3 : Keeps G a W) {t : Nat} (ht : t < 2) {m' : FD} (L : Go.Proofs.YtfclnhmijjlhdaaGreatDoor.Fd.Left n₀ (bf t) (FF t) m' W W') : Cz a G W' n₀ b bf bs d wi me (up m t m') cur fi l := by
 obtain ⟨F', h4, h5⟩ := h1.setF ht L
 have hsz := h3.size
 refine ⟨_, ao, cap, h4, ?_, keeps_mono h3 L.keeps (fun i hi => h2 i (GG.fed ht hi))⟩
 have hup : ∀ s, s < 2 → ∀ i, up FF t F' s i → G i ∨ a.heap.size ≤ i := by
  intro s hs i hi
  by_cases e : s = t
  · subst e
    rw [up_same] at hi
    rcases h5 i hi with h6 | h6
    · exact h2 i (GG.fed ht h6)
    · exact .inr (by omega)
  · rw [up_other _ _ e] at hi
    exact h2 i (GG.fed hs hi)
 rintro i (rfl | hi | hi | hi)
 · exact h2 _ (.inl rfl)
 · exact hup 0 (by omega) i hi
 · exact hup 1 (by omega) i hi
 · exact h2 i (.inr (.inr (.inr hi)))
/-- a window's call. -/
theorem cz_W {FF : Nat → Nat → Prop} {ao : Option Addr} {cap : Nat} (h1 : CP W n₀ b bf FF bs ao cap d wi me m cur fi l) (h2 : ∀ i, GG b FF bs ao i → G i ∨ a.heap.size ≤ i) (h3 : Keeps G a W) {ao' : Option Addr} {cap' : Nat} {fi' : Int} {l' : List (Int × St)}
 (k1 : Sw.Win W' n₀ 129 132 bs 65 fi' ao' cap' l') (k2 : Near ao ao' W.heap.size) (k3 : Keeps (Foot bs ao) W W') : Cz a G W' n₀ b bf bs d wi me m cur fi' l' := by
 have hsz := h3.size
 refine ⟨FF, ao', cap', h1.setW k1 k3, ?_, keeps_mono h3 k3 (fun i hi => h2 i (.inr (.inr (.inr hi))))⟩
 rintro i (rfl | hi | hi | hi)
 · exact h2 _ (.inl rfl)
 · exact h2 i (.inr (.inl hi))
 · exact h2 i (.inr (.inr (.inl hi)))
 · rcases hi with rfl | ⟨x, hx, rfl⟩
   · exact h2 _ (.inr (.inr (.inr (.inl rfl))))
   · rcases k2 x hx with ⟨y, hy, e⟩ | e
     · exact h2 _ (.inr (.inr (.inr (.inr ⟨y, hy, e.symm⟩))))
     · exact .inr (by omega)
theorem Cz.setC (h : Cz a G W n₀ b bf bs d wi me m cur fi l) (c' : Nat) : Cz a G (W.setCell ⟨b, 6, none⟩ (.int .i64 (c' : Int))) n₀ b bf bs d wi me m c' fi l := by
 obtain ⟨FF, ao, cap, h1, h2, h3⟩ := h
 refine ⟨FF, ao, cap, h1.setC c', h2, ?_⟩
 have k : Keeps (fun i => i = b) W (W.setCell ⟨b, 6, none⟩ (.int .i64 (c' : Int))) := (Keeps.refl (fun i => i = b) W).setCell (p := ⟨b, 6, none⟩) (fun _ => rfl) _
 exact keeps_mono h3 k (fun i e => by subst e; exact h2 _ (.inl rfl))
/-- what a feed's call that writes nothing answers. -/
theorem Cz.fed (h : Cz a G W n₀ b bf bs d wi me m cur fi l) {t : Nat} (ht : t < 2) : ∃ F, Fed W n₀ (bf t) F (m t) := by
 obtain ⟨FF, ao, cap, h1, _⟩ := h
 exact ⟨_, h1.fed t ht⟩
theorem Cz.win (h : Cz a G W n₀ b bf bs d wi me m cur fi l) : ∃ ao cap, Sw.Win W n₀ 129 132 bs 65 fi ao cap l := by
 obtain ⟨FF, ao, cap, h1, _⟩ := h
 exact ⟨_, _, h1.win⟩
end

/-- block b is the core c, whose calls may write the blocks G. -/
def Cor (w : World) (n₀ b : Nat) (G : Nat → Prop) (c : C) : Prop := ∃ bf FF bs ao cap, CP w n₀ b bf FF bs ao cap c.d c.w c.me c.F (now c) c.first (wl c) ∧ G = GG b FF bs ao
theorem Cor.cz {w : World} {n₀ b : Nat} {G : Nat → Prop} {c : C} (h : Cor w n₀ b G c) : ∃ bf bs, Cz w G w n₀ b bf bs c.d c.w c.me c.F (now c) c.first (wl c) := by
 obtain ⟨bf, FF, bs, ao, cap, h1, rfl⟩ := h
 exact ⟨bf, bs, FF, ao, cap, h1, fun i hi => .inl hi, Keeps.refl _ _⟩
/-- what a call left of a core. -/
abbrev Lf (n₀ b : Nat) (G : Nat → Prop) (c' : C) (w w' : World) : Prop := Ob.Lft (fun W F => Cor W n₀ b F c') G w w'
theorem Cz.lf {a : World} {G : Nat → Prop} {W : World} {n₀ b : Nat} {bf : Nat → Nat} {bs : Nat} {c : C} (h : Cz a G W n₀ b bf bs c.d c.w c.me c.F (now c) c.first (wl c)) : Lf n₀ b G c a W := by
 obtain ⟨FF, ao, cap, h1, h2, h3⟩ := h
 exact ⟨⟨_, ⟨bf, FF, bs, ao, cap, h1, rfl⟩, h2⟩, h3⟩
theorem Cor.ge {w : World} {n₀ b : Nat} {G : Nat → Prop} {c : C} (h : Cor w n₀ b G c) : ∀ i, G i → n₀ ≤ i := by
 obtain ⟨bf, FF, bs, ao, cap, h1, rfl⟩ := h
 exact h1.gge
theorem Cor.lt {w : World} {n₀ b : Nat} {G : Nat → Prop} {c : C} (h : Cor w n₀ b G c) : ∀ i, G i → i < w.heap.size := by
 obtain ⟨bf, FF, bs, ao, cap, h1, rfl⟩ := h
 exact h1.glt
theorem Cor.kp {S : Nat → Prop} {w w' : World} {n₀ b : Nat} {G : Nat → Prop} {c : C} (h : Cor w n₀ b G c) (k : Keeps S w w') (hs : ∀ i, G i → ¬ S i) : Cor w' n₀ b G c := by
 obtain ⟨bf, FF, bs, ao, cap, h1, rfl⟩ := h
 exact ⟨bf, FF, bs, ao, cap, h1.keeps k hs, rfl⟩
theorem Cor.old {w w' : World} {n₀ b : Nat} {G : Nat → Prop} {c : C} (h : Cor w n₀ b G c) (k : Below w.heap.size w w') : Cor w' n₀ b G c := h.kp (Keeps.ofOld k (fun _ => False)) (fun _ _ e => e)
end Go.Proofs.YtfclnhmijjlhdaaGreatDoor.Cr

namespace Go.Proofs.YtfclnhmijjlhdaaGreatDoor.Cr
open Go.RowKit Go.Proofs.YtfclnhmijjlhdaaGreatDoor.Rg
open Go.Proofs.YtfclnhmijjlhdaaGreatDoor.Fd (Fed wrongV)
open Go.Proofs.YtfclnhmijjlhdaaGreatDoor.Gm (St stC zeroS stepP)
open Go.Proofs.YtfclnhmijjlhdaaGreatDoor.Ev (Ev At bt br bal bd1 bdn)
open Go.Proofs.YtfclnhmijjlhdaaGreatDoor.Co (Co now common full other setN putAt putAt_len putAt_get play)
set_option linter.unusedVariables false
set_option maxRecDepth 100000

section
variable {a : World} {G : Nat → Prop} {W : World} {n₀ b : Nat} {bf : Nat → Nat} {bs d wi me : Nat} {m : Nat → FD} {cur : Nat} {fi : Int} {l : List (Int × St)}
theorem mine_c (h : Cz a G W n₀ b bf bs d wi me m cur fi l) (hm : me < 2) :
 Calls Tryz.prog 51 #[.pointer (some ⟨b, 0, none⟩)] W fun e w' => e = .returned (.pointer (some ⟨bf me, 0, none⟩)) ∧ ∃ q, w' = W.drewN q := by
 obtain ⟨_, _, c2, c3, c4, _, _⟩ := h.cells
 clear h
 rcases (show me = 0 ∨ me = 1 by omega) with rfl | rfl
 all_goals
  go_enter Tryz.func51, Tryz.ntmps51
  go_wp2_with fail
  go_quiet (fail)
  go_wp2_with fail
  go_ret
  exact ⟨rfl, _, rfl⟩
theorem theirs_c (h : Cz a G W n₀ b bf bs d wi me m cur fi l) (hm : me < 2) :
 Calls Tryz.prog 52 #[.pointer (some ⟨b, 0, none⟩)] W fun e w' => e = .returned (.pointer (some ⟨bf (1 - me), 0, none⟩)) ∧ ∃ q, w' = W.drewN q := by
 obtain ⟨_, _, c2, c3, c4, _, _⟩ := h.cells
 clear h
 rcases (show me = 0 ∨ me = 1 by omega) with rfl | rfl
 all_goals
  go_enter Tryz.func52, Tryz.ntmps52
  go_wp2_with fail
  go_quiet (fail)
  go_wp2_with fail
  go_ret
  exact ⟨rfl, _, rfl⟩
theorem current_c (h : Cz a G W n₀ b bf bs d wi me m cur fi l) :
 Calls Tryz.prog 13 #[.pointer (some ⟨b, 0, none⟩)] W fun e w' => e = .returned (.int .i64 (cur : Int)) ∧ w' = W := by
 obtain ⟨_, _, _, _, _, _, c6⟩ := h.cells
 clear h
 go_enter Tryz.func13, Tryz.ntmps13
 go_wp2_with fail
 go_ret
 exact ⟨rfl, rfl⟩
theorem ours_c (h : Cz a G W n₀ b bf bs d wi me m cur fi l) (hm : me < 2) :
 Calls Tryz.prog 29 #[.pointer (some ⟨b, 0, none⟩)] W fun e w' => e = .returned (.int .i64 ((m me).L.length : Int)) ∧ ∃ q, w' = W.drewN q := by
 obtain ⟨F, hf⟩ := h.fed hm
 have HM := hid (mine_c h hm)
 have HF := hid hf
 clear h hf
 go_enter Tryz.func29, Tryz.ntmps29
 go_wp2_with (first
  | (go_at_call 51; ((with_reducible refine HM.out.mono ?_); rintro e w' ⟨rfl, q, rfl⟩))
  | (go_at_call 71; ((with_reducible refine (Fd.next_c _ _ _ _ _ (HF.out.drewN q)).mono ?_); rintro e w' ⟨rfl, q2, rfl⟩)))
 go_ret
 exact ⟨rfl, _, rfl⟩
theorem theirN_c (h : Cz a G W n₀ b bf bs d wi me m cur fi l) (hm : me < 2) :
 Calls Tryz.prog 28 #[.pointer (some ⟨b, 0, none⟩)] W fun e w' => e = .returned (.int .i64 ((m (1 - me)).L.length : Int)) ∧ ∃ q, w' = W.drewN q := by
 obtain ⟨F, hf⟩ := h.fed (t := 1 - me) (by omega)
 have HM := hid (theirs_c h hm)
 have HF := hid hf
 clear h hf
 go_enter Tryz.func28, Tryz.ntmps28
 go_wp2_with (first
  | (go_at_call 52; ((with_reducible refine HM.out.mono ?_); rintro e w' ⟨rfl, q, rfl⟩))
  | (go_at_call 71; ((with_reducible refine (Fd.next_c _ _ _ _ _ (HF.out.drewN q)).mono ?_); rintro e w' ⟨rfl, q2, rfl⟩)))
 go_ret
 exact ⟨rfl, _, rfl⟩
/-- the first frame that isn't known of both. -/
def cm (m : Nat → FD) : Nat := min (m 0).L.length (m 1).L.length
theorem cm_min (m : Nat → FD) {me : Nat} (hm : me < 2) : min ((m me).L.length : Int) ((m (1 - me)).L.length : Int) = ((cm m : Nat) : Int) := by
 unfold cm
 rcases (show me = 0 ∨ me = 1 by omega) with rfl | rfl
 · simp only [Nat.sub_zero]; omega
 · simp only [Nat.sub_self]; omega
theorem common_c (h : Cz a G W n₀ b bf bs d wi me m cur fi l) (hm : me < 2) :
 Calls Tryz.prog 24 #[.pointer (some ⟨b, 0, none⟩)] W fun e w' => e = .returned (.int .i64 ((cm m : Nat) : Int)) ∧ ∃ q, w' = W.drewN q := by
 have HO := hid (fun q => ours_c (h.below (bdn (br W) q)) hm)
 have HT := hid (fun q => theirN_c (h.below (bdn (br W) q)) hm)
 have H0 := hid (ours_c h hm)
 have HC := hid (cm_min m hm)
 clear h
 go_enter Tryz.func24, Tryz.ntmps24
 go_wp2_with (first
  | (go_at_call 29; ((with_reducible refine H0.out.mono ?_); rintro e w' ⟨rfl, q, rfl⟩))
  | (go_at_call 28; ((with_reducible refine (HT.out q).mono ?_); rintro e w' ⟨rfl, q2, rfl⟩)))
 go_ret
 refine ⟨?_, _, rfl⟩
 show Ending.returned (Value.int .i64 _) = _
 rw [HC.out]
theorem far_c (h : Cz a G W n₀ b bf bs d wi me m cur fi l) (hm : me < 2) (hl : cm m ≤ 1073741825) (hw : wi ≤ 16) :
 Calls Tryz.prog 50 #[.pointer (some ⟨b, 0, none⟩)] W fun e w' => e = .returned (.bool (decide (cm m + wi ≤ cur))) ∧ ∃ q, w' = W.drewN q := by
 have HC := hid (common_c (h.below (bd1 (br W))) hm)
 obtain ⟨_, c1, _, _, _, _, c6⟩ := h.cells
 have hwr : IntKind.i64.wrap (((cm m : Nat) : Int) + (wi : Int)) = ((cm m : Nat) : Int) + (wi : Int) := IntWalk.i64_in _ (by omega)
 clear h
 go_enter Tryz.func50, Tryz.ntmps50
 go_wp2_with fail
 go_region_held3 (fun w' => w'.cell? ⟨b, 1, none⟩ = some (.int .i64 (wi : Int)) ∧ w'.cell? ⟨b, 6, none⟩ = some (.int .i64 (cur : Int)))
  (go_keep)
  (first | (go_at_call 24; ((with_reducible refine HC.out.mono ?_); rintro e w' ⟨rfl, q, rfl⟩)))
 all_goals
  go_wp2_with fail
  go_ret
  refine ⟨?_, _, rfl⟩
  show Ending.returned (Value.bool (decide (((cm m : Nat) : Int) + (wi : Int) ≤ (cur : Int)))) = _
  rw [show decide (((cm m : Nat) : Int) + (wi : Int) ≤ (cur : Int)) = decide (cm m + wi ≤ cur) from decide_eq_decide.2 (by omega)]
/-- what Settled answers. -/
def sV (m : Nat → FD) (me cur : Nat) : Int := match Fd.wrong (m (1 - me)) with | some k => (k : Int) - 1 | none => min (cur : Int) ((cm m : Nat) : Int) - 1
theorem settled_c (h : Cz a G W n₀ b bf bs d wi me m cur fi l) (hm : me < 2) (hl : cm m ≤ 1073741825) (hc : cur ≤ 1073741825) (hk : ∀ k, Fd.wrong (m (1 - me)) = some k → k ≤ 1073741825) :
 Calls Tryz.prog 20 #[.pointer (some ⟨b, 0, none⟩)] W fun e w' => e = .returned (.int .i64 (sV m me cur)) ∧ Below W.heap.size W w' := by
 have HTh := hid (theirs_c h hm)
 have HW : Hid (∀ q, Calls Tryz.prog 55 #[.pointer (some ⟨bf (1 - me), 0, none⟩)] (W.drewN q) fun e w' => e = .returned (.tuple #[.int .i64 (wrongV (m (1 - me))), .bool (Fd.wrong (m (1 - me))).isSome]) ∧ Below (W.drewN q).heap.size (W.drewN q) w') := hid (fun q => by
  obtain ⟨F, hf⟩ := (h.below (bdn (br W) q)).fed (t := 1 - me) (by omega)
  exact Fd.wrong_c _ _ _ _ _ hf)
 cases hw : Fd.wrong (m (1 - me)) with
 | some k =>
  have e1 : wrongV (m (1 - me)) = (k : Int) := by unfold Fd.wrongV; rw [hw]
  have e2 : sV m me cur = (k : Int) - 1 := by unfold sV; rw [hw]
  have hkk := hk k hw
  have hwr : IntKind.i64.wrap ((k : Int) - 1) = (k : Int) - 1 := IntWalk.i64_in _ (by omega)
  rw [e1, hw] at HW
  rw [e2]
  clear h hw e1 e2 hk
  go_enter Tryz.func20, Tryz.ntmps20
  go_wp2_with (first
   | (go_at_call 52; ((with_reducible refine HTh.out.mono ?_); rintro e w' ⟨rfl, q, rfl⟩))
   | (go_at_call 55; ((with_reducible refine (HW.out q).mono ?_); rintro e w2 ⟨rfl, hB⟩)))
  go_ret
  exact ⟨rfl, ⟨hB.os, hB.tape, hB.output, hB.size, hB.block⟩⟩
 | none =>
  have e2 : sV m me cur = min (cur : Int) ((cm m : Nat) : Int) - 1 := by unfold sV; rw [hw]
  have hwr : IntKind.i64.wrap (min (cur : Int) ((cm m : Nat) : Int) - 1) = min (cur : Int) ((cm m : Nat) : Int) - 1 := IntWalk.i64_in _ (by omega)
  rw [hw] at HW
  rw [e2]
  have HZ := hid h
  clear h hw e2 hk
  go_enter Tryz.func20, Tryz.ntmps20
  go_wp2_with (first
   | (go_at_call 52; ((with_reducible refine HTh.out.mono ?_); rintro e w' ⟨rfl, q, rfl⟩))
   | (go_at_call 55; ((with_reducible refine (HW.out q).mono ?_); rintro e w2 ⟨rfl, hB⟩)))
  have hB2 : Below W.heap.size W w2 := ⟨hB.os, hB.tape, hB.output, hB.size, hB.block⟩
  have HC := hid (common_c ((HZ.out.below hB2).below (bd1 (br w2))) hm)
  have c6 : w2.cell? ⟨b, 6, none⟩ = some (.int .i64 (cur : Int)) := (HZ.out.below hB2).cells.2.2.2.2.2.2
  go_region_held3 (fun w' => w'.cell? ⟨b, 6, none⟩ = some (.int .i64 (cur : Int)))
   (go_keep)
   (first | (go_at_call 24; ((with_reducible refine HC.out.mono ?_); rintro e w' ⟨rfl, q2, rfl⟩)))
  all_goals
   go_wp2_with fail
   go_ret
   exact ⟨rfl, ⟨hB.os, hB.tape, hB.output, hB.size, hB.block⟩⟩
end

theorem within_c (n x y : Int) (w : World) : Calls Tryz.prog 72 #[.int .i64 n, .int .i64 x, .int .i64 y] w fun e w' => e = .returned (.bool (decide (x ≤ n) && decide (n ≤ y))) ∧ w = w' := by
 by_cases h1 : x ≤ n
 · have d1 : decide (x ≤ n) = true := by simpa using h1
   rw [d1, Bool.true_and]
   go_enter Tryz.func72, Tryz.ntmps72
   go_wp2
   go_ret
   exact ⟨rfl, rfl⟩
 · have d1 : decide (x ≤ n) = false := by simpa using h1
   rw [d1, Bool.false_and]
   go_enter Tryz.func72, Tryz.ntmps72
   go_wp2
   go_ret
   exact ⟨rfl, rfl⟩
/-- may a config be? -/
def cfgB (d wi me : Int) : Bool := (decide (0 ≤ d) && decide (d ≤ 8)) && (decide (1 ≤ wi) && decide (wi ≤ 16)) && (decide (0 ≤ me) && decide (me ≤ 1))
theorem mayBe_c (sd d wi me : Int) (w : World) : Calls Tryz.prog 30 #[.agg #[.int .u32 sd, .int .i64 d, .int .i64 wi, .int .i64 me]] w fun e w' => e = .returned (.bool (cfgB d wi me)) ∧ Below w.heap.size w w' := by
 have HB := hid (bal (br w) (.cells #[.int .u32 sd, .int .i64 d, .int .i64 wi, .int .i64 me] 24))
 unfold cfgB
 by_cases h1 : (decide (0 ≤ d) && decide (d ≤ 8)) = true
 · by_cases h2 : (decide (1 ≤ wi) && decide (wi ≤ 16)) = true
   · rw [h1, h2, Bool.true_and, Bool.true_and]
     have g1 := hid h1
     have g2 := hid h2
     clear h1 h2
     obtain ⟨B3, g3⟩ : ∃ B, Hid ((decide (0 ≤ me) && decide (me ≤ 1)) = B) := ⟨_, hid rfl⟩
     rw [g3.out]
     go_enter Tryz.func30, Tryz.ntmps30
     go_wp2_with (go_at_call 72; ((with_reducible refine (within_c _ _ _ _).mono ?_); rintro e w' ⟨rfl, rfl⟩; first | rw [g1.out] | rw [g2.out] | rw [g3.out]))
     go_ret
     exact ⟨rfl, HB.out⟩
   · have h2' : (decide (1 ≤ wi) && decide (wi ≤ 16)) = false := by simpa using h2
     rw [h1, h2', Bool.true_and, Bool.false_and]
     have g1 := hid h1
     have g2 := hid h2'
     clear h1 h2 h2'
     go_enter Tryz.func30, Tryz.ntmps30
     go_wp2_with (go_at_call 72; ((with_reducible refine (within_c _ _ _ _).mono ?_); rintro e w' ⟨rfl, rfl⟩; first | rw [g1.out] | rw [g2.out]))
     go_ret
     exact ⟨rfl, HB.out⟩
 · have h1' : (decide (0 ≤ d) && decide (d ≤ 8)) = false := by simpa using h1
   rw [h1', Bool.false_and, Bool.false_and]
   have g1 := hid h1'
   clear h1 h1'
   go_enter Tryz.func30, Tryz.ntmps30
   go_wp2_with (go_at_call 72; ((with_reducible refine (within_c _ _ _ _).mono ?_); rintro e w' ⟨rfl, rfl⟩; first | rw [g1.out]))
   go_ret
   exact ⟨rfl, HB.out⟩
end Go.Proofs.YtfclnhmijjlhdaaGreatDoor.Cr

namespace Go.Proofs.YtfclnhmijjlhdaaGreatDoor.Cr
open Go.RowKit Go.Proofs.YtfclnhmijjlhdaaGreatDoor.Rg
open Go.Proofs.YtfclnhmijjlhdaaGreatDoor.Fd (Fed takeV takeB takeM isTk putE putM trimN trimM)
open Go.Proofs.YtfclnhmijjlhdaaGreatDoor.Gm (St stC zeroS stepP)
open Go.Proofs.YtfclnhmijjlhdaaGreatDoor.Ev (Ev At bt br bal bd1 bdn)
open Go.Proofs.YtfclnhmijjlhdaaGreatDoor.Sw (Rising lo lo_le lo_lt hasF hasF_some hasF_none thingS putL own1)
open Go.Proofs.YtfclnhmijjlhdaaGreatDoor.Co (Co now common full other setN putAt putAt_len putAt_get play)
set_option linter.unusedVariables false
set_option maxRecDepth 100000

/-- no type of a core's blocks. -/
abbrev Od (T : TypeId) : Prop := ¬ T ∈ ([85, 141, 174, 5, 177, 189, 129, 132] : List Nat)
/-- blocks of such types are kept. -/
def Kd (w w' : World) : Prop := ∀ B cs T, At w B cs T → Od T → At w' B cs T
theorem Kd.trans {x y z : World} (h : Kd x y) (k : Kd y z) : Kd x z := fun B cs T hB hT => k B cs T (h B cs T hB hT) hT
theorem Kd.ofBelow {x y : World} (h : Below x.heap.size x y) : Kd x y := fun B cs T hB _ => hB.below h
theorem kd_keeps {S : Nat → Prop} {x y : World} (k : Keeps S x y) (hs : ∀ B cs T, At x B cs T → Od T → ¬ S B) : Kd x y := fun B cs T hB hT => by
 unfold At at hB ⊢
 rw [k.block B (Array.getElem?_eq_some_iff.1 hB).1 (hs B cs T hB hT)]
 exact hB

section
variable {a : World} {G : Nat → Prop} {W W' : World} {n₀ b : Nat} {bf : Nat → Nat} {FF : Nat → Nat → Prop} {ao : Option Addr} {cap : Nat} {bs d wi me : Nat} {m : Nat → FD} {cur : Nat} {fi : Int} {l : List (Int × St)}
theorem CP.apart (h : CP W n₀ b bf FF bs ao cap d wi me m cur fi l) {B : Nat} {cs : Array Value} {T : TypeId} (hB : At W B cs T) (hT : Od T) : ¬ GG b FF bs ao B := by
 have hf : ∀ t, t < 2 → ¬ FF t B := by
  intro t ht hi
  obtain ⟨cs', T', h1, h2⟩ := (h.fed t ht).kind hi
  have := Eq.trans (Eq.symm hB) h1
  simp at this
  obtain ⟨_, e⟩ := this
  rw [e] at hT
  apply hT
  rcases h2 with h2 | h2 | h2 | h2 | h2 <;> simp [h2]
 rintro (rfl | hi | hi | hi)
 · have := Eq.trans (Eq.symm hB) h.block
   simp at this
   rw [this.2] at hT
   apply hT
   simp
 · exact hf 0 (by omega) hi
 · exact hf 1 (by omega) hi
 · obtain ⟨cs', h1 | h1⟩ := h.kindW hi
   · have := Eq.trans (Eq.symm hB) h1
     simp at this
     rw [this.2] at hT
     apply hT
     simp
   · have := Eq.trans (Eq.symm hB) h1
     simp at this
     rw [this.2] at hT
     apply hT
     simp
/-- a block of the caller's own is written. -/
theorem Cz.own (h : Cz a G W n₀ b bf bs d wi me m cur fi l) {B : Nat} {cs : Array Value} {T : TypeId} (hB : At W B cs T) (hT : Od T) (ha : a.heap.size ≤ B) (k : Keeps (fun i => i = B) W W') : Cz a G W' n₀ b bf bs d wi me m cur fi l := by
 obtain ⟨FF, ao, cap, h1, h2, h3⟩ := h
 exact ⟨FF, ao, cap, h1.keeps k (fun i hi e => h1.apart hB hT (e ▸ hi)), h2, keeps_mono h3 k (fun i e => .inr (by omega))⟩
theorem keeps_cell (w : World) (B j : Nat) (v : Value) : Keeps (fun i => i = B) w (w.setCell ⟨B, j, none⟩ v) := (Keeps.refl (fun i => i = B) w).setCell (p := ⟨B, j, none⟩) (fun _ => rfl) _
theorem keeps_row (w : World) (B : Nat) (cs : Array Value) : Keeps (fun i => i = B) w (w.setRow B cs) := (Keeps.refl (fun i => i = B) w).grown (Sw.setRow_grown w B cs) (fun j e _ => by simpa using e.symm)
theorem Cz.self (h : CP W n₀ b bf FF bs ao cap d wi me m cur fi l) : Cz W (GG b FF bs ao) W n₀ b bf bs d wi me m cur fi l := ⟨FF, ao, cap, h, fun i hi => .inl hi, Keeps.refl _ _⟩

theorem take_z {t : Nat} (ht : t < 2) (f : Int) (h : Cz a G W n₀ b bf bs d wi me m cur fi l) :
 Calls Tryz.prog 88 #[.pointer (some ⟨bf t, 0, none⟩), .int .i64 f] W fun e w' => e = .returned (.tuple #[.int .u8 (takeV (m t) f), .bool (takeB (m t) f && decide (isTk (m t) f))]) ∧ Cz a G w' n₀ b bf bs d wi me (up m t (takeM (m t) f)) cur fi l ∧ Kd W w' := by
 obtain ⟨FF, ao, cap, h1, h2, h3⟩ := h
 refine (Fd.take_c f n₀ (bf t) (FF t) (m t) W (h1.fed t ht)).mono ?_
 rintro e w' ⟨rfl, L⟩
 exact ⟨rfl, cz_F h1 h2 h3 ht L, kd_keeps L.keeps (fun B cs T hB hT hi => h1.apart hB hT (GG.fed ht hi))⟩
theorem fput_z {t : Nat} (ht : t < 2) (f x : Int) (hx : 0 ≤ x) (h : Cz a G W n₀ b bf bs d wi me m cur fi l) :
 Calls Tryz.prog 34 #[.pointer (some ⟨bf t, 0, none⟩), .int .i64 f, .int .u8 x] W fun e w' => e = .returned (.int .i64 (putE (m t) f x)) ∧ Cz a G w' n₀ b bf bs d wi me (up m t (putM (m t) f x)) cur fi l ∧ Kd W w' := by
 obtain ⟨FF, ao, cap, h1, h2, h3⟩ := h
 refine (Fd.put_c f x n₀ (bf t) (FF t) (m t) W (h1.fed t ht) hx).mono ?_
 rintro e w' ⟨rfl, L⟩
 exact ⟨rfl, cz_F h1 h2 h3 ht L, kd_keeps L.keeps (fun B cs T hB hT hi => h1.apart hB hT (GG.fed ht hi))⟩
theorem trim_z {t : Nat} (ht : t < 2) (f : Int) (h : Cz a G W n₀ b bf bs d wi me m cur fi l) :
 Calls Tryz.prog 57 #[.pointer (some ⟨bf t, 0, none⟩), .int .i64 f] W fun e w' => e = .returned (.int .i64 (trimN (m t) f)) ∧ Cz a G w' n₀ b bf bs d wi me (up m t (trimM (m t) f)) cur fi l ∧ Kd W w' := by
 obtain ⟨FF, ao, cap, h1, h2, h3⟩ := h
 refine (Fd.trim_c f n₀ (bf t) (FF t) (m t) W (h1.fed t ht)).mono ?_
 rintro e w' ⟨rfl, L⟩
 exact ⟨rfl, cz_F h1 h2 h3 ht L, kd_keeps L.keeps (fun B cs T hB hT hi => h1.apart hB hT (GG.fed ht hi))⟩
theorem get_z (i : Int) (hr : Rising l) (hl : l.length ≤ 4096) (h : Cz a G W n₀ b bf bs d wi me m cur fi l) :
 Calls Tryz.prog 67 #[.pointer (some ⟨bs, 0, none⟩), .int .i64 i] W fun e w' => e = .returned (.tuple #[.agg (stC (thingS l i)).toArray, .bool (hasF l i)]) ∧ Below W.heap.size W w' := by
 obtain ⟨FF, ao, cap, h1, h2, h3⟩ := h
 exact Sw.get_c i n₀ bs 65 cap fi ao l W h1.win hr hl
theorem wfoot (h : CP W n₀ b bf FF bs ao cap d wi me m cur fi l) : ∀ B cs T, At W B cs T → Od T → ¬ Foot bs ao B := fun B cs T hB hT hi => h.apart hB hT (.inr (.inr (.inr hi)))
/-- a frame from where the window begins up to the first one behind all has a new state. -/
theorem wput_z {A k : Nat} {S : List St} (h1 : A ≤ k) (h2 : k ≤ A + S.length) (h3 : k ≤ 1073741824) (h4 : k < A + 65) (h5 : S.length ≤ 4096) (x : St) (h : CP W n₀ b bf FF bs ao cap d wi me m cur A (fr A S)) :
 Calls Tryz.prog 32 #[.pointer (some ⟨bs, 0, none⟩), .int .i64 k, .agg (stC x).toArray] W fun e w' => e = .returned (.int .i64 0) ∧ Cz W (GG b FF bs ao) w' n₀ b bf bs d wi me m cur A (fr A (putAt S (k - A) x)) ∧ Kd W w' := by
 have hn : n₀ ≤ W.heap.size := Nat.le_of_lt (Nat.lt_of_le_of_lt h.ge h.lt)
 have hlen : (fr A S).length ≤ 4096 := by rw [fr_len]; exact h5
 by_cases hk : k < A + S.length
 · have hh : hasF (fr A S) (k : Int) = true := by rw [hasF_fr]; simp; omega
   refine (Sw.put_yes k x n₀ bs 65 cap A ao (fr A S) W h.win (fr_rising _ _) hlen hn (by omega) (by omega) (by omega) (by omega) hh).mono ?_
   rintro e w' ⟨rfl, ao', cap', k1, k2, k3⟩
   rw [put_fr h1 hk] at k1
   exact ⟨rfl, cz_W h (fun i hi => .inl hi) (Keeps.refl _ _) k1 k2 k3, kd_keeps k3 (wfoot h)⟩
 · have ek : k = A + S.length := by omega
   have hh : hasF (fr A S) (k : Int) = false := by rw [hasF_fr]; simp; omega
   have hend : lo (fr A S) (k : Int) = (fr A S).length := by rw [fr_len, lo_in h1 h2]; omega
   refine (Sw.put_no k x n₀ bs 65 cap A ao (fr A S) W h.win (fr_rising _ _) hlen hn (by omega) (by omega) (by omega) (by omega) hh hend).mono ?_
   rintro e w' ⟨rfl, ao', cap', k1, k2, k3⟩
   rw [snoc_fr ek] at k1
   exact ⟨rfl, cz_W h (fun i hi => .inl hi) (Keeps.refl _ _) k1 k2 k3, kd_keeps k3 (wfoot h)⟩
/-- where the window begins, or behind it, it begins now. -/
theorem move_z {A k : Nat} {S : List St} (h1 : A ≤ k) (h2 : k ≤ A + S.length) (h3 : k ≤ 1073741824) (h5 : S.length ≤ 4096) (h : Cz a G W n₀ b bf bs d wi me m cur A (fr A S)) :
 Calls Tryz.prog 58 #[.pointer (some ⟨bs, 0, none⟩), .int .i64 k] W fun e w' => e = .returned (.int .i64 ((k - A : Nat) : Int)) ∧ Cz a G w' n₀ b bf bs d wi me m cur k (fr k (S.drop (k - A))) ∧ Kd W w' := by
 obtain ⟨FF, ao, cap, k1, k2, k3⟩ := h
 have hlen : (fr A S).length ≤ 4096 := by rw [fr_len]; exact h5
 refine (Sw.move_c k n₀ bs 65 cap A ao (fr A S) W k1.win (fr_rising _ _) hlen ⟨by omega, by omega⟩).mono ?_
 rintro e w' ⟨rfl, q1, q2⟩
 rw [lo_in h1 h2] at q1 ⊢
 rw [fr_drop, show A + (k - A) = k by omega] at q1
 exact ⟨rfl, cz_W k1 k2 k3 q1 (Near.refl _ _) q2, kd_keeps q2 (wfoot k1)⟩
theorem move_z_no {A : Nat} {S : List St} (i : Int) (hi : i < (A : Int)) (h : Cz a G W n₀ b bf bs d wi me m cur A (fr A S)) :
 Calls Tryz.prog 58 #[.pointer (some ⟨bs, 0, none⟩), .int .i64 i] W fun e w' => e = .returned (.int .i64 0) ∧ w' = W := by
 obtain ⟨FF, ao, cap, k1, k2, k3⟩ := h
 refine (Sw.move_no i n₀ bs 65 cap A ao (fr A S) W k1.win (.inl hi)).mono ?_
 rintro e w' ⟨rfl, rfl⟩
 exact ⟨rfl, rfl⟩
end
end Go.Proofs.YtfclnhmijjlhdaaGreatDoor.Cr
