/- What is played again, as plain facts; Repair's memory (layer 15, core). -/
import Derived.Test.YtfclnhmijjlhdaaGreatDoorCrAgain
import Derived.Test.YtfclnhmijjlhdaaGreatDoorCrAwake
namespace Go.Proofs.YtfclnhmijjlhdaaGreatDoor.Cr
open Go.RowKit Go.Shelf
open Go.Proofs.YtfclnhmijjlhdaaGreatDoor.Rg
open Go.Proofs.YtfclnhmijjlhdaaGreatDoor.Fd (Fed takeM)
open Go.Proofs.YtfclnhmijjlhdaaGreatDoor.Gm (St stepP Ms Tab)
open Go.Proofs.YtfclnhmijjlhdaaGreatDoor.Ev (Ev Evs At bt br bal bd1 bdn flat)
open Go.Proofs.YtfclnhmijjlhdaaGreatDoor.Co (Co now common full other setN putAt putAt_len putAt_get play plays)
set_option linter.unusedVariables false
set_option maxRecDepth 100000

/-- what a frame tells, played now. -/
def evAt (c : C) (f : Nat) : List Ev := match c.S[f]? with | some s => (stepP s (Fd.tk (c.F 0) f) (Fd.tk (c.F 1) f)).2 | none => []
def acc (k N : Nat) (a : C × List (List Ev)) (x : Nat) : C × List (List Ev) := (play stepP a.1 (fAt k N x), a.2 ++ [evAt a.1 (fAt k N x)])
def rpA (c : C) (k N : Nat) (xs : List Nat) : C × List (List Ev) := xs.foldl (acc k N) (c, [])
theorem rpA_snoc (c : C) (k N : Nat) (xs : List Nat) (x : Nat) : rpA c k N (xs ++ [x]) = acc k N (rpA c k N xs) x := by simp [rpA]
theorem acc_len (k N : Nat) : ∀ (xs : List Nat) (a : C × List (List Ev)), (xs.foldl (acc k N) a).2.length = a.2.length + xs.length
 | [], _ => rfl
 | x :: xs, a => by
  rw [List.foldl_cons, acc_len k N xs]
  simp [acc]
  omega
theorem rpA_len (c : C) (k N : Nat) (xs : List Nat) : (rpA c k N xs).2.length = xs.length := by
 unfold rpA
 rw [acc_len]
 simp

/-- a core that was made of another one by playing frames again. -/
structure Gc (c0 c : C) : Prop where
 same : c.d = c0.d ∧ c.w = c0.w ∧ c.me = c0.me ∧ c.first = c0.first
 len : c.S.length = c0.S.length
 lenT : c.T.length + 1 = c.S.length
 gd : Gd c.S
 fed : ∀ t, t < 2 → Fd.Ok (c.F t) ∧ (c.F t).first = c0.first
theorem play_eq {c : C} {f : Nat} {s : St} (hs : c.S[f]? = some s) : play stepP c f = { c with F := fun i => takeM (c.F i) (f : Int), S := putAt c.S (f + 1) (stepP s (Fd.tk (c.F 0) f) (Fd.tk (c.F 1) f)).1, T := putAt c.T f (stepP s (Fd.tk (c.F 0) f) (Fd.tk (c.F 1) f)).2 } := by
 unfold Co.play
 rw [hs]
theorem Gc.play {c0 c : C} (h : Gc c0 c) {f : Nat} (hf : f + 1 < c0.S.length) (hb : f < 1073741824) : Gc c0 (play stepP c f) := by
 obtain ⟨s, hs⟩ : ∃ s, c.S[f]? = some s := ⟨_, List.getElem?_eq_getElem (by rw [h.len]; omega)⟩
 have hl := h.len
 have hlT := h.lenT
 rw [play_eq hs]
 refine ⟨h.same, ?_, ?_, gd_put h.gd hs hb _ _, fun t ht => ?_⟩
 · show (putAt c.S (f + 1) _).length = _
   rw [putAt_len _ _ _ (by omega)]; omega
 · show (putAt c.T f _).length + 1 = (putAt c.S (f + 1) _).length
   rw [putAt_len _ _ _ (by omega), putAt_len _ _ _ (by omega)]; omega
 · exact ⟨Fd.ok_take (h.fed t ht).1 _, (Fd.take_first _ _).trans (h.fed t ht).2⟩
theorem Gc.acc {c0 : C} {k N : Nat} (hN : 0 < N) (hk : k + N < c0.S.length) (hb : k + N ≤ 1073741824) : ∀ (xs : List Nat) (a : C × List (List Ev)), Gc c0 a.1 → Gc c0 (xs.foldl (Cr.acc k N) a).1
 | [], _, h => h
 | x :: xs, a, h => by
  rw [List.foldl_cons]
  exact Gc.acc hN hk hb xs _ (h.play (f := fAt k N x) (by unfold fAt; omega) (by unfold fAt; omega))
theorem Gc.rpA {c0 : C} (h : Gc c0 c0) {k N : Nat} (hN : 0 < N) (hk : k + N < c0.S.length) (hb : k + N ≤ 1073741824) (xs : List Nat) : Gc c0 (rpA c0 k N xs).1 := Gc.acc hN hk hb xs _ h
/-- played in their order. -/
theorem rpA_range {c : C} (h : Gc c c) {k N : Nat} (hk : k + N < c.S.length) : ∀ q, q ≤ N → (rpA c k N (List.range q)).1 = plays stepP c k q ∧ ∀ j, j < q → (rpA c k N (List.range q)).2[j]? = (plays stepP c k q).T[k + j]?
 | 0, _ => ⟨rfl, fun j hj => by omega⟩
 | q + 1, hq => by
  obtain ⟨h1, h2⟩ := rpA_range h hk q (by omega)
  have hP := Co.played stepP c k (by omega) h.lenT q (by omega)
  have hl := hP.lenS
  have hlT := hP.lenT
  have hlT0 := h.lenT
  obtain ⟨s, hs⟩ : ∃ s, (plays stepP c k q).S[k + q]? = some s := ⟨_, List.getElem?_eq_getElem (by omega)⟩
  have hlen := rpA_len c k N (List.range q)
  rw [List.length_range] at hlen
  have ef : fAt k N q = k + q := by unfold fAt; omega
  rw [List.range_succ, rpA_snoc]
  unfold acc
  rw [ef, h1]
  refine ⟨rfl, fun j hj => ?_⟩
  show (_ ++ [evAt (plays stepP c k q) (k + q)])[j]? = (play stepP (plays stepP c k q) (k + q)).T[k + j]?
  rw [play_eq hs]
  show _ = (putAt (plays stepP c k q).T (k + q) _)[k + j]?
  rw [putAt_get _ _ _ (by omega)]
  by_cases e : j = q
  · subst e
    rw [if_pos rfl, List.getElem?_append_right (by omega), hlen, Nat.sub_self]
    unfold evAt
    rw [hs]
    rfl
  · rw [if_neg (by omega), List.getElem?_append_left (by omega)]
    exact h2 j (by omega)

def pcs (p : Int × Value) : List Value := [.int .i64 p.1, p.2]
section
variable {W W' : World} {n₀ b : Nat} {bf : Nat → Nat} {FF : Nat → Nat → Prop} {ao : Option Addr} {cap : Nat} {bs : Nat}
/-- the core c in memory, by its parts. -/
abbrev CPc (W : World) (n₀ b : Nat) (bf : Nat → Nat) (FF : Nat → Nat → Prop) (bs : Nat) (ao : Option Addr) (cap : Nat) (c : C) : Prop := CP W n₀ b bf FF bs ao cap c.d c.w c.me c.F (now c) c.first (wl c)
theorem cp_play {c : C} {f : Nat} {s : St} (hs : c.S[f]? = some s) (h1 : c.first ≤ f) (h2 : f + 1 < c.S.length)
 (h : CP W n₀ b bf FF bs ao cap c.d c.w c.me (fun t => takeM (c.F t) f) (now c) c.first (fr c.first (putAt (c.S.drop c.first) (f + 1 - c.first) (stepP s (Fd.tk (c.F 0) f) (Fd.tk (c.F 1) f)).1))) : CPc W n₀ b bf FF bs ao cap (play stepP c f) := by
 have e : now (play stepP c f) = now c := by
  rw [play_eq hs]
  show (putAt c.S (f + 1) _).length - 1 = c.S.length - 1
  rw [putAt_len _ _ _ (by omega)]; omega
 unfold CPc
 rw [e]
 rw [play_eq hs]
 unfold wl
 show CP W n₀ b bf FF bs ao cap c.d c.w c.me (fun t => takeM (c.F t) f) (now c) c.first (fr c.first ((putAt c.S (f + 1) _).drop c.first))
 rw [drop_put (by omega) (by omega)]
 exact h
theorem CP.cellsG {d wi me cur : Nat} {m : Nat → FD} {fi : Int} {l : List (Int × St)} (h : CP W n₀ b bf FF bs ao cap d wi me m cur fi l) {i : Nat} (hi : GG b FF bs ao i) : ∃ cs T, W.heap[i]? = some (.cells cs T (0, 0)) := by
 rcases hi with rfl | hi | hi | hi
 · exact ⟨_, _, h.block⟩
 · obtain ⟨cs, T, h1, _⟩ := (h.fed 0 (by omega)).kind hi
   exact ⟨_, _, h1⟩
 · obtain ⟨cs, T, h1, _⟩ := (h.fed 1 (by omega)).kind hi
   exact ⟨_, _, h1⟩
 · obtain ⟨cs, h1 | h1⟩ := h.kindW hi
   · exact ⟨_, _, h1⟩
   · exact ⟨_, _, h1⟩
theorem evs_cells {v : Value} {l : List Ev} (h : Evs W v l) (hl : l ≠ []) {j : Nat} (hj : v.ownBlock = some j) : ∃ cs T fz, W.heap[j]? = some (.cells cs T fz) := by
 obtain ⟨ao, L, cap, e, h1, h2, h3, h4⟩ := h
 obtain ⟨b, o, e2, hlt, hc⟩ := h4 (List.length_pos_iff.2 hl)
 subst e2
 subst e
 simp [Value.ownBlock] at hj
 subst hj
 have := hc 0 (List.length_pos_iff.2 hl) 0 _ rfl
 unfold World.cell? at this
 cases hh : W.heap[b]? with
 | none => simp [hh] at this
 | some x =>
  cases x with
  | cells cs T fz => exact ⟨cs, T, fz, rfl⟩
  | _ => simp [hh] at this
theorem owns_keeps {S : Nat → Prop} {B e sz n : Nat} {v : Value} {xs : List Value} (h : W.ownsRow B e sz v n xs) (k : Keeps S W W') (hs : ∀ g, v.ownBlock = some g → ¬ S g) : W'.ownsRow B e sz v n xs := by
 refine ⟨h.1, ?_⟩
 rcases h.2 with h1 | ⟨g, cap, cur, rfl, h2, h3, h4⟩
 · exact .inl h1
 · exact .inr ⟨g, cap, cur, rfl, h2, (k.block g (Array.getElem?_eq_some_iff.1 h3).1 (hs g rfl)).trans h3, h4⟩

/-- Repair on its way: the core, what was told so far, its pages, its pointers. -/
structure Rz (W0 : World) (G0 : Nat → Prop) (W : World) (n₀ b : Nat) (bf : Nat → Nat) (bs B1 B4 Bn : Nat) (c : C) (E : List (List Ev)) (P : List (Int × Value)) : Prop where
 ex : ∃ FF ao cap v, CPc W n₀ b bf FF bs ao cap c ∧ (∀ i, GG b FF bs ao i → G0 i ∨ W0.heap.size ≤ i) ∧ At W B4 #[v] 46 ∧ W.ownsRow W0.heap.size 51 2 v P.length (flat pcs P) ∧
  ∀ (j : Nat) (p : Int × Value) (e : List Ev), P[j]? = some p → E[j]? = some e → Evs W p.2 e ∧ ∀ g, p.2.ownBlock = some g → e ≠ [] → W0.heap.size ≤ g ∧ ¬ GG b FF bs ao g ∧ g ≠ B4 ∧ v.ownBlock ≠ some g
 kp : Keeps G0 W0 W
 rv : At W B1 #[.pointer (some ⟨b, 0, none⟩)] 27
 it : At W Bn #[.pointer (some ⟨b, 0, none⟩)] 27
 ge : W0.heap.size ≤ B4
theorem Rz.grown {W0 : World} {G0 : Nat → Prop} {B1 B4 Bn : Nat} {c : C} {E : List (List Ev)} {P : List (Int × Value)} (h : Rz W0 G0 W n₀ b bf bs B1 B4 Bn c E P) {row : Option Nat} (g : W.grownBy W' row) (hr : ∀ r, row = some r → W0.heap.size ≤ r ∧ ∃ o : Obj, W.heap[r]? = some o ∧ o.isCells = false) :
 Rz W0 G0 W' n₀ b bf bs B1 B4 Bn c E P := by
 have k : Keeps (fun i => row = some i) W W' := (Keeps.refl (fun i => row = some i) W).grown g (fun j e _ => e)
 have hc : ∀ {i : Nat} {cs : Array Value} {T : TypeId} {fz : Nat × Nat}, W.heap[i]? = some (.cells cs T fz) → ¬ row = some i := by
  intro i cs T fz hi e
  obtain ⟨_, o, h1, h2⟩ := hr i e
  rw [hi] at h1
  cases h1
  cases h2
 have hat : ∀ {B : Nat} {cs : Array Value} {T : TypeId}, At W B cs T → At W' B cs T := by
  intro B cs T hB
  unfold At
  rw [k.block B hB.lt (hc hB)]
  exact hB
 obtain ⟨FF, ao, cap, v, h1, h2, h3, h4, h5⟩ := h.ex
 refine ⟨⟨FF, ao, cap, v, h1.keeps k (fun i hi => by obtain ⟨cs, T, e⟩ := h1.cellsG hi; exact hc e), h2, hat h3, owns_keeps h4 k (fun g hg => by
  rcases h4.2 with ⟨rfl, _⟩ | ⟨g', cap', cur, rfl, _, hgb, _⟩
  · cases hg
  · simp [Value.ownBlock] at hg
    subst hg
    exact hc hgb), fun j p e hp he => ?_⟩, keeps_mono h.kp k (fun i e => .inr (hr i e).1), hat h.rv, hat h.it, h.ge⟩
 obtain ⟨h6, h7⟩ := h5 j p e hp he
 exact ⟨evs_keeps h6 k (fun g hg hl => by obtain ⟨cs, T, fz, e'⟩ := evs_cells h6 hl hg; exact hc e'), h7⟩
end
end Go.Proofs.YtfclnhmijjlhdaaGreatDoor.Cr
