/- A core of which the plain facts hold, in memory, apart from blocks of its caller's, behind each call (layer 15, core). -/
/- What the law CoreTells has in memory beside the core: the inputs that were taken, what was told (layer 15, core). -/
/- The law CoreTells on its way: what holds ahead of each round (layer 15, core). -/
import Derived.Test.YtfclnhmijjlhdaaGreatDoorJ26
namespace Go.Proofs.YtfclnhmijjlhdaaGreatDoor.Cr
open Go.RowKit
open Go.Proofs.YtfclnhmijjlhdaaGreatDoor.Rg
open Go.Proofs.YtfclnhmijjlhdaaGreatDoor.Fd (Fed takeM putM putE trimM knB)
open Go.Proofs.YtfclnhmijjlhdaaGreatDoor.Gm (St stC stepP Ms Tab)
open Go.Proofs.YtfclnhmijjlhdaaGreatDoor.Ev (Ev Evs At bt br bal bd1 bdn flat)
open Go.Proofs.YtfclnhmijjlhdaaGreatDoor.Co (Co now common full other setN putAt putAt_len putAt_get play plays offerE offerM hearE hearM repairM stepE stepM freeTo freeM freeN Inv)
set_option linter.unusedVariables false
set_option maxRecDepth 100000

/-- all blocks of G are kept. -/
abbrev Kx (G : Nat → Prop) (W W' : World) : Prop := Keeps (fun i => ¬ G i) W W'
/-- the block that events lie in, if there are any. -/
def nb (v : Value) (x : List Ev) (g : Nat) : Prop := x ≠ [] ∧ v.ownBlock = some g
/-- the core c in block b, in memory made since world w; the blocks of G are none of its. -/
structure Lx (w W : World) (b : Nat) (c : C) (G : Nat → Prop) : Prop where
 cp : ∃ bf FF bs ao cap, CPc W w.heap.size b bf FF bs ao cap c ∧ ∀ g, G g → ¬ GG b FF bs ao g
 lt : ∀ g, G g → g < W.heap.size
 old : Below w.heap.size w W
section
variable {w W W' : World} {b : Nat} {c : C} {s0 : St} {i : Nat} {G G' : Nat → Prop}
theorem evs_kx {v : Value} {x : List Ev} (h : Evs W v x) (k : Kx G W W') (hg : ∀ g, nb v x g → G g) : Evs W' v x := by
 obtain ⟨a, L, cap1, rfl, h1, h2, h3, h8⟩ := h
 refine ⟨a, L, cap1, rfl, h1, h2, h3, fun hl => ?_⟩
 obtain ⟨c, o, rfl, h9, h10⟩ := h8 hl
 have hG : G c := hg c ⟨List.length_pos_iff.1 hl, rfl⟩
 have hblk := k.block c h9 (fun e => e hG)
 refine ⟨c, o, rfl, Nat.lt_of_lt_of_le h9 k.size, fun j hj i v hv => ?_⟩
 have := h10 j hj i v hv
 rw [← this]
 unfold World.cell?
 rw [hblk]
theorem Lx.lc (h : Lx w W b c G) : Lc w W b c := by
 obtain ⟨bf, FF, bs, ao, cap, k, _⟩ := h.cp
 exact ⟨⟨bf, FF, bs, ao, cap, k⟩, h.old⟩
theorem lx_new (h : Lc w W b c) : Lx w W b c (fun _ => False) := by
 obtain ⟨bf, FF, bs, ao, cap, k⟩ := h.cp
 exact ⟨⟨bf, FF, bs, ao, cap, k, fun _ e => e.elim⟩, fun _ e => e.elim, h.old⟩
theorem Lx.less (h : Lx w W b c G) (hs : ∀ g, G' g → G g) : Lx w W b c G' := by
 obtain ⟨bf, FF, bs, ao, cap, k, ha⟩ := h.cp
 exact ⟨⟨bf, FF, bs, ao, cap, k, fun g hg => ha g (hs g hg)⟩, fun g hg => h.lt g (hs g hg), h.old⟩
/-- the caller's own store or append: blocks of G, or new ones. -/
theorem Lx.mine (h : Lx w W b c G) (k : Keeps G W W') (hge : ∀ g, G g → w.heap.size ≤ g) (hs : ∀ g, G' g → G g ∨ W.heap.size ≤ g ∧ g < W'.heap.size) : Lx w W' b c G' := by
 obtain ⟨bf, FF, bs, ao, cap, q, ha⟩ := h.cp
 refine ⟨⟨bf, FF, bs, ao, cap, q.keeps k (fun i hi e => ha i e hi), fun g hg e => ?_⟩, fun g hg => ?_, h.old.trans (k.below h.old.size hge)⟩
 · rcases hs g hg with h1 | h1
   · exact ha g h1 e
   · have := q.glt g e; omega
 · rcases hs g hg with h1 | h1
   · have := h.lt g h1; have := k.size; omega
   · exact h1.2
theorem Lx.below (h : Lx w W b c G) (g : Below W.heap.size W W') : Lx w W' b c G := by
 obtain ⟨bf, FF, bs, ao, cap, q, ha⟩ := h.cp
 exact ⟨⟨bf, FF, bs, ao, cap, q.old g, ha⟩, fun i hi => Nat.lt_of_lt_of_le (h.lt i hi) g.size, bt h.old g⟩
theorem kx_below (g : Below W.heap.size W W') : Kx G W W' := Keeps.ofOld g _
theorem lx_of {c' : C} {bf : Nat → Nat} {FF FF' : Nat → Nat → Prop} {bs : Nat} {ao ao' : Option Addr} {cap cap' : Nat} (h : CPc W w.heap.size b bf FF bs ao cap c) (ha : ∀ g, G g → ¬ GG b FF bs ao g) (hl : ∀ g, G g → g < W.heap.size) (ho : Below w.heap.size w W)
 (k : CPc W' w.heap.size b bf FF' bs ao' cap' c') (k2 : ∀ i, GG b FF' bs ao' i → GG b FF bs ao i ∨ W.heap.size ≤ i) (hk : Keeps (GG b FF bs ao) W W') :
 Lx w W' b c' G ∧ Kx G W W' := by
 refine ⟨⟨⟨bf, FF', bs, ao', cap', k, fun g hg e => ?_⟩, fun g hg => Nat.lt_of_lt_of_le (hl g hg) hk.size, ho.trans (hk.below ho.size h.gge)⟩, hk.mono (fun i _ hi hG => ha i hG hi)⟩
 rcases k2 g e with h1 | h1
 · exact ha g hg h1
 · have := hl g hg; omega
theorem Lx.offer (h : Lx w W b c G) (ho : Ho s0 c i) (hi : i ≤ 1000000) (x : Int) (hx : 0 ≤ x) :
 Calls Tryz.prog 14 #[.pointer (some ⟨b, 0, none⟩), .int .u8 x] W fun e w' => (∃ y, e = .returned (.tuple #[.int .i64 y, .int .i64 (offerE c x)])) ∧ Lx w w' b (offerM c x) G ∧ Kx G W w' := by
 obtain ⟨bf, FF, bs, ao, cap, k, ha⟩ := h.cp
 obtain ⟨U, hI⟩ := ho.inv
 have := ho.nw
 refine (offer_z x hx hI.me2 ho.d8 ho.w16 (fun t ht => (hI.ok t ht).len) (by omega) (Cz.self k)).mono ?_
 rintro e w' ⟨rfl, FF', ao', cap', k1, k2, k3⟩
 rw [ofE_eq]
 refine ⟨⟨_, rfl⟩, lx_of k ha h.lt h.old (c' := offerM c x) (FF' := FF') (ao' := ao') (cap' := cap') ?_ k2 k3⟩
 · unfold ofM at k1
   rw [ofE_eq] at k1
   unfold offerM
   by_cases he : offerE c x = 0
   · rw [if_pos he] at k1 ⊢
     exact k1
   · rw [if_neg he] at k1 ⊢
     exact k1
theorem Lx.hear (h : Lx w W b c G) (ho : Ho s0 c i) (f x : Int) (hx : 0 ≤ x) :
 Calls Tryz.prog 15 #[.pointer (some ⟨b, 0, none⟩), .int .i64 f, .int .u8 x] W fun e w' => e = .returned (.int .i64 (hearE c f x)) ∧ Lx w w' b (hearM c f x) G ∧ Kx G W w' := by
 obtain ⟨bf, FF, bs, ao, cap, k, ha⟩ := h.cp
 obtain ⟨U, hI⟩ := ho.inv
 refine (hear_z f x hx hI.me2 (Cz.self k)).mono ?_
 rintro e w' ⟨rfl, FF', ao', cap', k1, k2, k3⟩
 exact ⟨rfl, lx_of k ha h.lt h.old (c' := hearM c f x) k1 k2 k3⟩
theorem Lx.free (h : Lx w W b c G) (ho : Ho s0 c i) (hi : i ≤ 1000000) (f : Int) :
 Calls Tryz.prog 18 #[.pointer (some ⟨b, 0, none⟩), .int .i64 f] W fun e w' => (∃ y, e = .returned (.int .i64 y)) ∧ Lx w w' b (freeM c f) G ∧ Kx G W w' := by
 obtain ⟨bf, FF, bs, ao, cap, k, ha⟩ := h.cp
 obtain ⟨U, hI⟩ := ho.inv
 have h1 := hI.lenS
 have h2 := hI.firstN
 have h3 := hI.few
 have hn := ho.nw
 have hset : setN c ≤ now c := by unfold setN; omega
 have hF : min f (sV c.F c.me (now c) + 1) = freeTo c f := by
  rw [ho.sv]
  unfold freeTo
  split <;> omega
 have hle : freeTo c f ≤ (setN c : Int) := by unfold freeTo; split <;> omega
 refine (free_z (A := c.first) (S := c.S.drop c.first) f hI.me2 (by rw [List.length_drop]; omega) ho.cm (by omega) (fun q hq => by have := (ho.wr hq).2.1; omega) hF (by rw [List.length_drop]; omega) (by omega) (Cz.self k)).mono ?_
 rintro e w' ⟨rfl, FF', ao', cap', k1, k2, k3⟩
 refine ⟨⟨_, rfl⟩, lx_of k ha h.lt h.old (c' := freeM c f) (FF' := FF') (ao' := ao') (cap' := cap') ?_ k2 k3⟩
 have e1 : (freeM c f).first = if freeTo c f < (c.first : Int) then c.first else (freeTo c f).toNat := by
  show max c.first (freeTo c f).toNat = _
  split <;> omega
 have e2 : wl (freeM c f) = if freeTo c f < (c.first : Int) then fr c.first (c.S.drop c.first) else fr (freeTo c f).toNat ((c.S.drop c.first).drop ((freeTo c f).toNat - c.first)) := by
  unfold wl
  rw [e1]
  show fr _ (c.S.drop _) = _
  split
  · rfl
  · rw [List.drop_drop, show c.first + ((freeTo c f).toNat - c.first) = (freeTo c f).toNat by omega]
 unfold CPc
 rw [e1, e2]
 exact k1
/-- a state that is kept. -/
theorem Lx.state (h : Lx w W b c G) (ho : Ho s0 c i) (f : Nat) (h1 : c.first ≤ f) (h2 : f ≤ now c) {s : St} (hs : c.S[f]? = some s) :
 Calls Tryz.prog 23 #[.pointer (some ⟨b, 0, none⟩), .int .i64 f] W fun e w' => e = .returned (.tuple #[.agg (stC s).toArray, .bool true]) ∧ Below W.heap.size W w' := by
 obtain ⟨bf, FF, bs, ao, cap, k, ha⟩ := h.cp
 obtain ⟨U, hI⟩ := ho.inv
 have e1 := hI.lenS
 have e3 := hI.few
 have hs' : (c.S.drop c.first)[f - c.first]? = some s := by rw [List.getElem?_drop, show c.first + (f - c.first) = f by omega]; exact hs
 have := state_z (f : Int) (fr_rising c.first (c.S.drop c.first)) (by rw [fr_len, List.length_drop]; omega) (Cz.self k)
 have hh : Sw.hasF (fr c.first (c.S.drop c.first)) (f : Int) = true := by rw [hasF_fr, List.length_drop, decide_eq_true_iff]; omega
 rw [thing_fr h1 hs', hh] at this
 exact this
/-- a frame that is played, or not: what it answers, what is told. -/
theorem Lx.step (h : Lx w W b c G) (ho : Ho s0 c i) (hi : i ≤ 1000000) (htab : Tab w) :
 Calls Tryz.prog 17 #[.pointer (some ⟨b, 0, none⟩)] W fun e w' => ∃ y v1 v2 v3 x, e = .returned (.tuple #[.agg #[.int .i64 y, .slice v1 v2 v3], .int .i64 (stepE c)]) ∧ (stepE c ≠ 0 → stepM stepP c = c) ∧ (stepE c = 0 → (stepM stepP c).T = c.T ++ [x] ∧ Evs w' (.slice v1 v2 v3) x) ∧ Lx w w' b (stepM stepP c) (fun g => G g ∨ stepE c = 0 ∧ nb (.slice v1 v2 v3) x g) ∧ Kx G W w' ∧ (∀ g, stepE c = 0 → nb (.slice v1 v2 v3) x g → W.heap.size ≤ g) := by
 obtain ⟨bf, FF, bs, ao, cap, k, ha⟩ := h.cp
 obtain ⟨U, hI⟩ := ho.inv
 have h1 := hI.lenS
 have h2 := hI.firstN
 have h3 := hI.few
 have hn := ho.nw
 have hcom : Co.common c = Cr.cm c.F := rfl
 cases hw : (Fd.wrong (c.F (1 - c.me))).isSome with
 | true =>
  have e1 : stepE c = 11 := by unfold stepE; rw [if_pos (show (Fd.wrong (c.F (other c))).isSome = true from hw)]
  have e2 : stepM stepP c = c := by unfold stepM; rw [e1, if_neg (by decide)]
  rw [e1, e2]
  refine (step_wrong k hI.me2 hw).mono ?_
  rintro e w' ⟨rfl, hB⟩
  exact ⟨_, _, _, _, [], rfl, fun _ => rfl, fun e => absurd e (by decide), (h.below hB).less (fun g hg => hg.elim id (fun e => absurd e.1 (by decide))), kx_below hB, fun g e => absurd e (by decide)⟩
 | false =>
  have hnw : ¬ (Fd.wrong (c.F (other c))).isSome = true := by rw [show (Fd.wrong (c.F (other c))).isSome = false from hw]; decide
  by_cases hwt : full c = true ∨ (c.F c.me).L.length ≤ now c
  · have e1 : stepE c = 9 := by unfold stepE; rw [if_neg hnw, if_pos hwt]
    have e2 : stepM stepP c = c := by unfold stepM; rw [e1, if_neg (by decide)]
    rw [e1, e2]
    refine (step_wait k hI.me2 hw ho.cm ho.w16 (by omega) ?_).mono ?_
    · rcases hwt with h4 | h4
      · exact .inr (by unfold full at h4; rw [hcom] at h4; simpa using h4)
      · refine .inl ?_
        unfold Fd.knB
        rw [Fd.kn_none (.inr (by omega))]
        rfl
    · rintro e w' ⟨rfl, hB⟩
      exact ⟨_, _, _, _, [], rfl, fun _ => rfl, fun e => absurd e (by decide), (h.below hB).less (fun g hg => hg.elim id (fun e => absurd e.1 (by decide))), kx_below hB, fun g e => absurd e (by decide)⟩
  · have e1 : stepE c = 0 := by unfold stepE; rw [if_neg hnw, if_neg hwt]
    have e2 : stepM stepP c = play stepP c (now c) := by unfold stepM; rw [e1, if_pos rfl]
    have h5 : ¬ full c = true := fun e => hwt (.inl e)
    have h6 : now c < (c.F c.me).L.length := Nat.lt_of_not_le fun e => hwt (.inr e)
    obtain ⟨s, hs⟩ : ∃ s, c.S[now c]? = some s := ⟨_, List.getElem?_eq_getElem (by omega)⟩
    obtain ⟨q1, q2, _⟩ := ho.gd _ s hs
    have hof := (hI.ok _ hI.me2).few
    rw [hI.fst _ hI.me2] at hof
    have hkn : knB (c.F c.me) (now c : Int) = true := by
     unfold Fd.knB
     rw [Fd.kn_in (by rw [hI.fst _ hI.me2]; exact h2) h6]
     rfl
    have hfar : ¬ Cr.cm c.F + c.w ≤ now c := by unfold full at h5; rw [hcom] at h5; simpa using h5
    have hTl := hI.lenT2
    rw [e1, e2]
    refine (step_go k hI.me2 hw ho.cm ho.w16 hkn hfar (by rw [List.length_drop]; omega) h2 (by rw [List.getElem?_drop, show c.first + (now c - c.first) = now c by omega]; exact hs) (by omega) (by omega) q1 q2 (fun t ht => ⟨hI.ok t ht, by rw [hI.fst t ht]; exact h2⟩) (htab.below htab.lt h.old) htab.lt).mono ?_
    rintro e w' ⟨v, rfl, hev, FF', ao', cap', k1, k2, k3, k4⟩
    obtain ⟨v1, v2, v3, rfl, _⟩ := id hev
    have e3 : now (play stepP c (now c)) = now c + 1 := by
     rw [play_eq hs]
     show (putAt c.S (now c + 1) _).length - 1 = now c + 1
     rw [putAt_len _ _ _ (by omega)]; omega
    have e4 : (play stepP c (now c)).T = c.T ++ [(stepP s (Fd.tk (c.F 0) (now c)) (Fd.tk (c.F 1) (now c))).2] := by
     rw [play_eq hs]
     show putAt c.T (now c) _ = _
     unfold putAt
     rw [← hTl, List.take_length, List.drop_eq_nil_of_le (by omega)]
    have kc : CPc w' w.heap.size b bf FF' bs ao' cap' (play stepP c (now c)) := by
     unfold CPc
     rw [e3]
     rw [play_eq hs]
     unfold wl
     show CP w' _ b bf FF' bs ao' cap' c.d c.w c.me (fun t => takeM (c.F t) (now c)) (now c + 1) c.first (fr c.first ((putAt c.S (now c + 1) _).drop c.first))
     rw [drop_put (by omega) (by omega)]
     exact k1
    obtain ⟨l1, l2⟩ := lx_of k ha h.lt h.old kc k2 k3
    refine ⟨_, v1, v2, v3, _, rfl, fun e => absurd rfl e, fun _ => ⟨e4, hev⟩, ⟨⟨bf, FF', bs, ao', cap', kc, ?_⟩, ?_, l1.old⟩, l2, fun g _ hg => (k4 g hg.2 hg.1).1⟩
    · rintro g (hg | ⟨_, hg⟩)
      · intro e
        rcases k2 g e with h7 | h7
        · exact ha g hg h7
        · have := h.lt g hg; omega
      · exact (k4 g hg.2 hg.1).2
    · rintro g (hg | ⟨_, hg⟩)
      · exact l1.lt g hg
      · exact evs_lt hev hg.2 hg.1
/-- the blocks of pages: their own row's, their events'. -/
def Gp (v : Value) (P : List (Int × Value)) (T : List (List Ev)) (k : Nat) (g : Nat) : Prop := v.ownBlock = some g ∨ ∃ j p x, P[j]? = some p ∧ T[k + j]? = some x ∧ nb p.2 x g
/-- what Repair answers: from k on, to the last one that was played. -/
structure Pgs (W : World) (P : List (Int × Value)) (c c' : C) (k : Nat) : Prop where
 le : k ≤ now c
 len : P.length = now c - k
 at' : ∀ j p, P[j]? = some p → p.1 = ((k + j : Nat) : Int) ∧ ∃ x, c'.T[k + j]? = some x ∧ Evs W p.2 x
 low : ∀ j, j < k → c'.T[j]? = c.T[j]?
 lenT : c'.T.length = c.T.length
theorem Lx.repair (h : Lx w W b c G) (ho : Ho s0 c i) (hi : i ≤ 1000000) (htab : Tab w) :
 Calls Tryz.prog 16 #[.pointer (some ⟨b, 0, none⟩)] W fun e w' => ∃ (P : List (Int × Value)) (v : Value) (k : Nat), e = .returned (.tuple #[v, .int .i64 0]) ∧ w'.ownsRow W.heap.size 51 2 v P.length (flat pcs P) ∧ Pgs w' P c (repairM stepP c) k ∧
  Lx w w' b (repairM stepP c) (fun g => G g ∨ Gp v P (repairM stepP c).T k g) ∧ Kx G W w' ∧ ∀ g, Gp v P (repairM stepP c).T k g → W.heap.size ≤ g := by
 obtain ⟨bf, FF, bs, ao, cap, kc, ha⟩ := h.cp
 obtain ⟨U, hI⟩ := ho.inv
 have h1 := hI.lenS
 have hn := ho.nw
 refine (repair_c kc hI ho.gd (by omega) (htab.below htab.lt h.old) htab.lt).mono ?_
 rintro e w' ⟨P, v, E, rfl, hPE, hP, hwk, hwn, hrow, k3, FF', ao', cap', k1, k2, hv, hev⟩
 obtain ⟨l1, l2⟩ := lx_of kc ha h.lt h.old k1 k2 k3
 obtain ⟨k, hk, hlen, hTk⟩ : ∃ k, k ≤ now c ∧ P.length = now c - k ∧ ((∃ q, Fd.wrong (c.F (other c)) = some q ∧ q = k) ∨ Fd.wrong (c.F (other c)) = none ∧ k = now c) := by
  cases hw : Fd.wrong (c.F (other c)) with
  | none => exact ⟨now c, Nat.le_refl _, by rw [hwn hw]; omega, .inr ⟨rfl, rfl⟩⟩
  | some q => exact ⟨q, Nat.le_of_lt (hI.wrongLt hw).1, hwk q hw, .inl ⟨q, rfl, rfl⟩⟩
 have hat : ∀ j p, P[j]? = some p → ∃ x, E[j]? = some x ∧ p.1 = ((k + j : Nat) : Int) ∧ (repairM stepP c).T[k + j]? = some x := by
  intro j p hp
  have hj := (List.getElem?_eq_some_iff.1 hp).1
  obtain ⟨x, hx⟩ : ∃ x, E[j]? = some x := ⟨_, List.getElem?_eq_getElem (by omega)⟩
  obtain ⟨f, e1, e2, e3, q, e4, e5⟩ := hP j p x hp hx
  rcases hTk with ⟨q', e6, e7⟩ | ⟨e6, _⟩
  · have := Option.some.inj (e4.symm.trans e6)
    have ef : f = k + j := by omega
    rw [ef] at e1 e3
    exact ⟨x, hx, e1, e3⟩
  · rw [e6] at e4; cases e4
 have hge : ∀ g, v.ownBlock = some g → W.heap.size ≤ g ∧ g < w'.heap.size := by
  intro g hg
  rcases hrow.2 with ⟨rfl, _⟩ | ⟨g', cap1, cur, rfl, hlt, hgg, _⟩
  · cases hg
  · simp [Value.ownBlock] at hg
    subst hg
    exact ⟨hlt, (Array.getElem?_eq_some_iff.1 hgg).1⟩
 have hGp : ∀ g, Gp v P (repairM stepP c).T k g → W.heap.size ≤ g ∧ g < w'.heap.size ∧ ¬ GG b FF' bs ao' g := by
  rintro g (hg | ⟨j, p, x, hp, hx, hg⟩)
  · exact ⟨(hge g hg).1, (hge g hg).2, hv g hg⟩
  · obtain ⟨x', hx', _, e3⟩ := hat j p hp
    rw [e3] at hx
    cases hx
    obtain ⟨e5, e6⟩ := hev j p _ hp hx'
    obtain ⟨e7, e8⟩ := e6 g hg.2 hg.1
    exact ⟨e7, evs_lt e5 hg.2 hg.1, e8⟩
 have hTT : (∀ j, j < k → (repairM stepP c).T[j]? = c.T[j]?) ∧ (repairM stepP c).T.length = c.T.length := by
  have hTl := hI.lenT2
  unfold repairM
  rcases hTk with ⟨q, e6, rfl⟩ | ⟨e6, _⟩
  · rw [e6]
    have hq := (hI.wrongLt e6).1
    have hpl := Co.played stepP c q (by omega) hI.lenT (now c - q) (by omega)
    refine ⟨hpl.lowT, ?_⟩
    have := hpl.lenT
    show (plays stepP c q (now c - q)).T.length = _
    omega
  · rw [e6]
    exact ⟨fun _ _ => rfl, rfl⟩
 refine ⟨P, v, k, rfl, hrow, ⟨hk, hlen, fun j p hp => ?_, hTT.1, hTT.2⟩, ⟨⟨bf, FF', bs, ao', cap', k1, ?_⟩, ?_, l1.old⟩, l2, fun g hg => (hGp g hg).1⟩
 · obtain ⟨x, hx, e1, e2⟩ := hat j p hp
   exact ⟨e1, x, e2, (hev j p x hp hx).1⟩
 · rintro g (hg | hg)
   · intro e
     rcases k2 g e with h7 | h7
     · exact ha g hg h7
     · have := h.lt g hg; omega
   · exact (hGp g hg).2.2
 · rintro g (hg | hg)
   · exact l1.lt g hg
   · exact (hGp g hg).2.1
end
end Go.Proofs.YtfclnhmijjlhdaaGreatDoor.Cr

namespace Go.Proofs.YtfclnhmijjlhdaaGreatDoor.Cr
open Go.RowKit
open Go.Proofs.YtfclnhmijjlhdaaGreatDoor.Rg
open Go.Proofs.YtfclnhmijjlhdaaGreatDoor.Gm (St stC stepP Ms Tab)
open Go.Proofs.YtfclnhmijjlhdaaGreatDoor.Ev (Ev Evs At bt br bal bd1 bdn flat)
open Go.Proofs.YtfclnhmijjlhdaaGreatDoor.Co (Co now common full other setN putAt putAt_len putAt_get play plays offerE offerM hearE hearM repairM stepE stepM freeTo freeM freeN Inv)
set_option linter.unusedVariables false
set_option maxRecDepth 100000

abbrev bv (l : List Int) : List Value := l.map (Value.int .u8)
/-- two rows of inputs in block B, the list of what was told; each block by its label: 1 that of the array, 2 and 3 the rows', 4 the list's, 5 events'. -/
structure Tm (n : Nat) (W : World) (B : Nat) (v0 : Value) (L0 : List Int) (v1 : Value) (L1 : List Int) (tv : Value) (TL : List Value) (T : List (List Ev)) (lab : Nat → Nat) : Prop where
 bi : At W B #[v0, v1] 42
 lb : lab B = 1
 r0 : W.ownsRow n 5 1 v0 L0.length (bv L0)
 l0 : ∀ g, v0.ownBlock = some g → lab g = 2
 r1 : W.ownsRow n 5 1 v1 L1.length (bv L1)
 l1 : ∀ g, v1.ownBlock = some g → lab g = 3
 rt : W.ownsRow n 49 1 tv TL.length TL
 lt : ∀ g, tv.ownBlock = some g → lab g = 4
 tl : TL.length = T.length
 ev : ∀ (j : Nat) (v : Value) (x : List Ev), TL[j]? = some v → T[j]? = some x → Evs W v x ∧ ∀ g, nb v x g → lab g = 5
section
variable {n : Nat} {W W' : World} {B : Nat} {v0 v1 tv : Value} {L0 L1 : List Int} {TL : List Value} {T : List (List Ev)} {lab lab' : Nat → Nat}
abbrev Gl (lab : Nat → Nat) (g : Nat) : Prop := lab g ≠ 0
theorem Tm.kx (h : Tm n W B v0 L0 v1 L1 tv TL T lab) (k : Kx (Gl lab) W W') : Tm n W' B v0 L0 v1 L1 tv TL T lab where
 bi := (k.block B h.bi.lt (fun e => e (by show lab B ≠ 0; rw [h.lb]; decide))).trans h.bi
 lb := h.lb
 r0 := owns_keeps h.r0 k (fun g hg e => e (by show lab g ≠ 0; rw [h.l0 g hg]; decide))
 l0 := h.l0
 r1 := owns_keeps h.r1 k (fun g hg e => e (by show lab g ≠ 0; rw [h.l1 g hg]; decide))
 l1 := h.l1
 rt := owns_keeps h.rt k (fun g hg e => e (by show lab g ≠ 0; rw [h.lt g hg]; decide))
 lt := h.lt
 tl := h.tl
 ev := fun j v x hv hx => ⟨evs_kx (h.ev j v x hv hx).1 k (fun g hg => by show lab g ≠ 0; rw [(h.ev j v x hv hx).2 g hg]; decide), (h.ev j v x hv hx).2⟩
theorem Tm.below (h : Tm n W B v0 L0 v1 L1 tv TL T lab) (k : Below W.heap.size W W') : Tm n W' B v0 L0 v1 L1 tv TL T lab := h.kx (kx_below k)
/-- labels of other blocks. -/
theorem Tm.re (h : Tm n W B v0 L0 v1 L1 tv TL T lab) (hl : ∀ g, lab g ≠ 0 → lab' g = lab g) : Tm n W B v0 L0 v1 L1 tv TL T lab' where
 bi := h.bi
 lb := by rw [hl B (by rw [h.lb]; decide), h.lb]
 r0 := h.r0
 l0 := fun g hg => by rw [hl g (by rw [h.l0 g hg]; decide), h.l0 g hg]
 r1 := h.r1
 l1 := fun g hg => by rw [hl g (by rw [h.l1 g hg]; decide), h.l1 g hg]
 rt := h.rt
 lt := fun g hg => by rw [hl g (by rw [h.lt g hg]; decide), h.lt g hg]
 tl := h.tl
 ev := fun j v x hv hx => ⟨(h.ev j v x hv hx).1, fun g hg => by rw [hl g (by rw [(h.ev j v x hv hx).2 g hg]; decide), (h.ev j v x hv hx).2 g hg]⟩
/-- a block of the label d is set or made. -/
def labP (lab : Nat → Nat) (ob : Option Nat) (d : Nat) (g : Nat) : Nat := if ob = some g then d else lab g
theorem labP_old {ob : Option Nat} {d : Nat} (h : ∀ g, ob = some g → lab g = 0 ∨ lab g = d) : ∀ g, lab g ≠ 0 → labP lab ob d g = lab g := by
 intro g hg
 unfold labP
 split
 · rename_i e
   rcases h g e with h1 | h1
   · exact absurd h1 hg
   · exact h1.symm
 · rfl
/-- all that is kept but for the blocks of one label. -/
theorem Tm.but (h : Tm n W B v0 L0 v1 L1 tv TL T lab) {S : Nat → Prop} (k : Keeps S W W') {d : Nat} (hs : ∀ g, g < W.heap.size → S g → lab g = d) :
 (d ≠ 1 → At W' B #[v0, v1] 42) ∧ (d ≠ 2 → W'.ownsRow n 5 1 v0 L0.length (bv L0)) ∧ (d ≠ 3 → W'.ownsRow n 5 1 v1 L1.length (bv L1)) ∧ (d ≠ 4 → W'.ownsRow n 49 1 tv TL.length TL) ∧
  (d ≠ 5 → ∀ (j : Nat) (v : Value) (x : List Ev), TL[j]? = some v → T[j]? = some x → Evs W' v x ∧ ∀ g, nb v x g → lab g = 5) := by
 have hlt : ∀ {e m : Nat} {v : Value} {p : Nat} {xs : List Value}, W.ownsRow n e m v p xs → ∀ g, v.ownBlock = some g → g < W.heap.size := by
  intro e m v p xs hr g hg
  rcases hr.2 with ⟨rfl, _⟩ | ⟨g', cap, cur, rfl, _, hb, _⟩
  · cases hg
  · simp [Value.ownBlock] at hg
    subst hg
    exact (Array.getElem?_eq_some_iff.1 hb).1
 refine ⟨fun hd => (k.block B h.bi.lt (fun e => ?_)).trans h.bi, fun hd => owns_keeps h.r0 k (fun g hg e => ?_), fun hd => owns_keeps h.r1 k (fun g hg e => ?_), fun hd => owns_keeps h.rt k (fun g hg e => ?_), fun hd j v x hv hx => ?_⟩
 · have := hs B h.bi.lt e; rw [h.lb] at this; exact hd this.symm
 · have := hs g (hlt h.r0 g hg) e; rw [h.l0 g hg] at this; exact hd this.symm
 · have := hs g (hlt h.r1 g hg) e; rw [h.l1 g hg] at this; exact hd this.symm
 · have := hs g (hlt h.rt g hg) e; rw [h.lt g hg] at this; exact hd this.symm
 · obtain ⟨h1, h2⟩ := h.ev j v x hv hx
   refine ⟨?_, h2⟩
   have k2 : Kx (fun g => nb v x g) W W' := k.mono (fun g hg hS hn => by
    have := hs g hg hS
    rw [h2 g hn] at this
    exact hd this.symm)
   exact evs_kx h1 k2 (fun g hg => hg)
/-- one of the rows of inputs has grown by one, and was put back. -/
theorem Tm.put0 (h : Tm n W B v0 L0 v1 L1 tv TL T lab) {o : Obj} {w' : World} {v' : Value} {x : Int} (hn : n ≤ W.heap.size) (hr : w'.ownsRow n 5 1 v' (L0.length + 1) (bv L0 ++ [.int .u8 x])) (hg : (W.alloc o).grownBy w' v0.ownBlock) (hv : v'.ownBlock = v0.ownBlock ∨ v'.ownBlock = some (W.heap.size + 1)) (hz : ∀ g, W.heap.size ≤ g → lab g = 0) :
 Tm n (w'.setCell ⟨B, 0, none⟩ v') B v' (L0 ++ [x]) v1 L1 tv TL T (labP lab v'.ownBlock 2) ∧ Keeps (Gl lab) W (w'.setCell ⟨B, 0, none⟩ v') := by
 have k1 : Keeps (fun g => lab g = 2) W w' := ((Keeps.refl _ W).alloc o).grown hg (fun g e _ => h.l0 g e)
 obtain ⟨m1, _, m3, m4, m5⟩ := h.but k1 (d := 2) (fun g _ e => e)
 have hB := m1 (by decide)
 have k2 : Keeps (fun g => g = B) w' (w'.setCell ⟨B, 0, none⟩ v') := (Keeps.refl (fun g => g = B) w').setCell (p := ⟨B, 0, none⟩) (fun _ => rfl) _
 have kx : ∀ {e m : Nat} {v : Value} {p : Nat} {xs : List Value} {d : Nat}, d ≠ 1 → w'.ownsRow n e m v p xs → (∀ g, v.ownBlock = some g → lab g = d) → (w'.setCell ⟨B, 0, none⟩ v').ownsRow n e m v p xs := fun hd hr hl => owns_keeps hr k2 (fun g hg e => by have := hl g hg; rw [e, h.lb] at this; exact hd this.symm)
 have hold : ∀ g, lab g ≠ 0 → labP lab v'.ownBlock 2 g = lab g := labP_old (fun g hg => by
  rcases hv with e | e
  · exact .inr (h.l0 g (e ▸ hg))
  · rw [e] at hg; cases hg; exact .inl (hz _ (by omega)))
 refine ⟨⟨heap_setCell_same w' B 0 _ _ v' hB, by rw [hold B (by rw [h.lb]; decide), h.lb], ?_, fun g hg => by unfold labP; rw [if_pos hg], kx (by decide) (m3 (by decide)) h.l1, fun g hg => by rw [hold g (by rw [h.l1 g hg]; decide), h.l1 g hg], kx (by decide) (m4 (by decide)) h.lt, fun g hg => by rw [hold g (by rw [h.lt g hg]; decide), h.lt g hg], h.tl, fun j v y hv' hy => ?_⟩, ?_⟩
 · rw [List.length_append, List.length_singleton, show bv (L0 ++ [x]) = bv L0 ++ [.int .u8 x] by simp [bv]]
   refine owns_keeps hr k2 (fun g hg e => ?_)
   rcases hv with e2 | e2
   · have := h.l0 g (e2 ▸ hg); rw [e, h.lb] at this; cases this
   · rw [e2] at hg; cases hg; have := h.bi.lt; omega
 · obtain ⟨e1, e2⟩ := m5 (by decide) j v y hv' hy
   refine ⟨evs_kx (G := fun g => nb v y g) e1 (k2.mono (fun g _ hg hn => ?_)) (fun g hg => hg), fun g hg => by rw [hold g (by rw [e2 g hg]; decide), e2 g hg]⟩
   have := e2 g hn; rw [hg, h.lb] at this; cases this
 · exact (k1.mono (fun g _ e => by show lab g ≠ 0; rw [e]; decide)).trans k2 (fun g _ e => by show lab g ≠ 0; rw [e, h.lb]; decide)
theorem Tm.put1 (h : Tm n W B v0 L0 v1 L1 tv TL T lab) {o : Obj} {w' : World} {v' : Value} {x : Int} (hn : n ≤ W.heap.size) (hr : w'.ownsRow n 5 1 v' (L1.length + 1) (bv L1 ++ [.int .u8 x])) (hg : (W.alloc o).grownBy w' v1.ownBlock) (hv : v'.ownBlock = v1.ownBlock ∨ v'.ownBlock = some (W.heap.size + 1)) (hz : ∀ g, W.heap.size ≤ g → lab g = 0) :
 Tm n (w'.setCell ⟨B, 1, none⟩ v') B v0 L0 v' (L1 ++ [x]) tv TL T (labP lab v'.ownBlock 3) ∧ Keeps (Gl lab) W (w'.setCell ⟨B, 1, none⟩ v') := by
 have k1 : Keeps (fun g => lab g = 3) W w' := ((Keeps.refl _ W).alloc o).grown hg (fun g e _ => h.l1 g e)
 obtain ⟨m1, m3, _, m4, m5⟩ := h.but k1 (d := 3) (fun g _ e => e)
 have hB := m1 (by decide)
 have k2 : Keeps (fun g => g = B) w' (w'.setCell ⟨B, 1, none⟩ v') := (Keeps.refl (fun g => g = B) w').setCell (p := ⟨B, 1, none⟩) (fun _ => rfl) _
 have kx : ∀ {e m : Nat} {v : Value} {p : Nat} {xs : List Value} {d : Nat}, d ≠ 1 → w'.ownsRow n e m v p xs → (∀ g, v.ownBlock = some g → lab g = d) → (w'.setCell ⟨B, 1, none⟩ v').ownsRow n e m v p xs := fun hd hr hl => owns_keeps hr k2 (fun g hg e => by have := hl g hg; rw [e, h.lb] at this; exact hd this.symm)
 have hold : ∀ g, lab g ≠ 0 → labP lab v'.ownBlock 3 g = lab g := labP_old (fun g hg => by
  rcases hv with e | e
  · exact .inr (h.l1 g (e ▸ hg))
  · rw [e] at hg; cases hg; exact .inl (hz _ (by omega)))
 refine ⟨⟨heap_setCell_same w' B 1 _ _ v' hB, by rw [hold B (by rw [h.lb]; decide), h.lb], kx (by decide) (m3 (by decide)) h.l0, fun g hg => by rw [hold g (by rw [h.l0 g hg]; decide), h.l0 g hg], ?_, fun g hg => by unfold labP; rw [if_pos hg], kx (by decide) (m4 (by decide)) h.lt, fun g hg => by rw [hold g (by rw [h.lt g hg]; decide), h.lt g hg], h.tl, fun j v y hv' hy => ?_⟩, ?_⟩
 · rw [List.length_append, List.length_singleton, show bv (L1 ++ [x]) = bv L1 ++ [.int .u8 x] by simp [bv]]
   refine owns_keeps hr k2 (fun g hg e => ?_)
   rcases hv with e2 | e2
   · have := h.l1 g (e2 ▸ hg); rw [e, h.lb] at this; cases this
   · rw [e2] at hg; cases hg; have := h.bi.lt; omega
 · obtain ⟨e1, e2⟩ := m5 (by decide) j v y hv' hy
   refine ⟨evs_kx (G := fun g => nb v y g) e1 (k2.mono (fun g _ hg hn => ?_)) (fun g hg => hg), fun g hg => by rw [hold g (by rw [e2 g hg]; decide), e2 g hg]⟩
   have := e2 g hn; rw [hg, h.lb] at this; cases this
 · exact (k1.mono (fun g _ e => by show lab g ≠ 0; rw [e]; decide)).trans k2 (fun g _ e => by show lab g ≠ 0; rw [e, h.lb]; decide)
/-- one more was told. -/
theorem Tm.tell (h : Tm n W B v0 L0 v1 L1 tv TL T lab) {o : Obj} {w' : World} {v' v : Value} {x : List Ev} (hr : w'.ownsRow n 49 1 v' (TL.length + 1) (TL ++ [v])) (hg : (W.alloc o).grownBy w' tv.ownBlock) (hv : v'.ownBlock = tv.ownBlock ∨ v'.ownBlock = some (W.heap.size + 1)) (hz : ∀ g, W.heap.size ≤ g → lab g = 0)
 (hx : Evs W v x) (hb : ∀ g, nb v x g → lab g = 5) :
 Tm n w' B v0 L0 v1 L1 v' (TL ++ [v]) (T ++ [x]) (labP lab v'.ownBlock 4) ∧ Keeps (Gl lab) W w' := by
 have k1 : Keeps (fun g => lab g = 4) W w' := ((Keeps.refl _ W).alloc o).grown hg (fun g e _ => h.lt g e)
 obtain ⟨m1, m2, m3, _, m5⟩ := h.but k1 (d := 4) (fun g _ e => e)
 have hold : ∀ g, lab g ≠ 0 → labP lab v'.ownBlock 4 g = lab g := labP_old (fun g hg => by
  rcases hv with e | e
  · exact .inr (h.lt g (e ▸ hg))
  · rw [e] at hg; cases hg; exact .inl (hz _ (by omega)))
 refine ⟨⟨m1 (by decide), by rw [hold B (by rw [h.lb]; decide), h.lb], m2 (by decide), fun g hg => by rw [hold g (by rw [h.l0 g hg]; decide), h.l0 g hg], m3 (by decide), fun g hg => by rw [hold g (by rw [h.l1 g hg]; decide), h.l1 g hg], by rw [List.length_append, List.length_singleton]; exact hr, fun g hg => by unfold labP; rw [if_pos hg], by rw [List.length_append, List.length_append, h.tl]; rfl, fun j v2 y hv' hy => ?_⟩, k1.mono (fun g _ e => by show lab g ≠ 0; rw [e]; decide)⟩
 have hj := (List.getElem?_eq_some_iff.1 hv').1
 rw [List.length_append, List.length_singleton] at hj
 rcases Nat.lt_or_ge j TL.length with h1 | h1
 · rw [List.getElem?_append_left h1] at hv'
   rw [List.getElem?_append_left (by rw [← h.tl]; exact h1)] at hy
   obtain ⟨e1, e2⟩ := m5 (by decide) j v2 y hv' hy
   exact ⟨e1, fun g hg => by rw [hold g (by rw [e2 g hg]; decide), e2 g hg]⟩
 · have ej : j = TL.length := by omega
   rw [ej, List.getElem?_append_right (Nat.le_refl _), Nat.sub_self] at hv'
   rw [ej, h.tl, List.getElem?_append_right (Nat.le_refl _), Nat.sub_self] at hy
   simp at hv' hy
   subst hv' hy
   refine ⟨evs_kx (G := fun g => nb v x g) hx (k1.mono (fun g _ hg hn => ?_)) (fun g hg => hg), fun g hg => by rw [hold g (by rw [hb g hg]; decide), hb g hg]⟩
   have := hb g hn; omega
/-- what was told of a frame is told anew. -/
theorem Tm.set (h : Tm n W B v0 L0 v1 L1 tv TL T lab) {g f cap : Nat} (e : tv = .slice (some ⟨g, 0, none⟩) TL.length cap) {v : Value} {x : List Ev} (hx : Evs W v x) (hb : ∀ g, nb v x g → lab g = 5) :
 Tm n (W.setCell ⟨g, f, none⟩ v) B v0 L0 v1 L1 tv (TL.set f v) (T.set f x) lab ∧ Keeps (Gl lab) W (W.setCell ⟨g, f, none⟩ v) := by
 have hg4 : lab g = 4 := h.lt g (by rw [e]; rfl)
 have k1 : Keeps (fun g => lab g = 4) W (W.setCell ⟨g, f, none⟩ v) := (Keeps.refl (fun g => lab g = 4) W).setCell (p := ⟨g, f, none⟩) (fun _ => hg4) _
 obtain ⟨m1, m2, m3, _, m5⟩ := h.but k1 (d := 4) (fun g _ e => e)
 have hr := h.rt
 rw [e] at hr
 refine ⟨⟨m1 (by decide), h.lb, m2 (by decide), h.l0, m3 (by decide), h.l1, ?_, h.lt, by rw [List.length_set, List.length_set, h.tl], fun j v2 y hv hy => ?_⟩, k1.mono (fun g _ e => by show lab g ≠ 0; rw [e]; decide)⟩
 · rw [List.length_set, e]
   exact (hr.stored f v).1
 · rw [List.getElem?_set] at hv hy
   by_cases ej : f = j
   · rw [if_pos ej] at hv hy
     split at hv
     · split at hy
       · cases hv; cases hy
         refine ⟨evs_kx (G := fun g => nb v x g) hx (k1.mono (fun g _ hg hn => ?_)) (fun g hg => hg), hb⟩
         have := hb g hn; omega
       · cases hy
     · cases hv
   · rw [if_neg ej] at hv hy
     exact m5 (by decide) j v2 y hv hy
/-- at the beginning: as many zeros as the delay. -/
theorem tm_new {n d : Nat} {W : World} {B g0 g1 : Nat} {lab : Nat → Nat} (hB : At W B #[.slice (some ⟨g0, 0, none⟩) d d, .slice (some ⟨g1, 0, none⟩) d d] 42) (h0 : W.ownsRow n 5 1 (.slice (some ⟨g0, 0, none⟩) d d) d (bv (List.replicate d 0))) (h1 : W.ownsRow n 5 1 (.slice (some ⟨g1, 0, none⟩) d d) d (bv (List.replicate d 0)))
 {tv : Value} (ht : W.ownsRow n 49 1 tv 0 []) (l1 : lab B = 1) (l2 : lab g0 = 2) (l3 : lab g1 = 3) (l4 : ∀ g, tv.ownBlock = some g → lab g = 4) :
 Tm n W B (.slice (some ⟨g0, 0, none⟩) d d) (List.replicate d 0) (.slice (some ⟨g1, 0, none⟩) d d) (List.replicate d 0) tv [] [] lab :=
 ⟨hB, l1, by rw [List.length_replicate]; exact h0, fun g hg => by cases hg; exact l2, by rw [List.length_replicate]; exact h1, fun g hg => by cases hg; exact l3, ht, l4, rfl, fun j v x hv => by simp at hv⟩
theorem owns_made {X : World} {n g d : Nat} (h : At X g (madeCells #[.int .u8 0] d) 5) (hn : n ≤ g) (hd : d ≤ 100) : X.ownsRow n 5 1 (.slice (some ⟨g, 0, none⟩) d d) d (bv (List.replicate d 0)) :=
 ⟨by simp [bv], .inr ⟨g, d, _, rfl, hn, h, Nat.le_refl _, by unfold maxLen; omega, by simp [madeCells], by rw [toList_madeCells_one]; simp [bv]⟩⟩
/-- the three blocks that the law makes, in whatever order. -/
theorem mk3 {w1 w2 X : World} {b : Nat} {c : C} (hlx : Lx w1 w2 b c (fun _ => False)) (hX : Below w2.heap.size w2 X) {d g0 g1 B : Nat} (hd : d ≤ 100) (ht : At X w2.heap.size #[] 49) (h0 : At X g0 (madeCells #[.int .u8 0] d) 5) (h1 : At X g1 (madeCells #[.int .u8 0] d) 5)
 (hB : At X B #[.slice (some ⟨g0, 0, none⟩) d d, .slice (some ⟨g1, 0, none⟩) d d] 42) (e0 : w2.heap.size < g0) (e1 : w2.heap.size < g1) (eB : w2.heap.size < B) (e2 : g0 ≠ g1) (e3 : g0 ≠ B) (e4 : g1 ≠ B) :
 ∃ lab, Tm w1.heap.size X B (.slice (some ⟨g0, 0, none⟩) d d) (List.replicate d 0) (.slice (some ⟨g1, 0, none⟩) d d) (List.replicate d 0) (.slice (some ⟨w2.heap.size, 0, none⟩) 0 0) [] [] lab ∧ Lx w1 X b c (Gl lab) ∧ ∀ g, Gl lab g → w1.heap.size ≤ g := by
 have hs := hlx.old.size
 obtain ⟨lab, hl⟩ : ∃ lab : Nat → Nat, lab = fun g => if g = B then 1 else if g = g0 then 2 else if g = g1 then 3 else if g = w2.heap.size then 4 else 0 := ⟨_, rfl⟩
 have hG : ∀ g, Gl lab g → w2.heap.size ≤ g ∧ g < X.heap.size := by
  intro g hg
  unfold Gl at hg
  rw [hl] at hg
  simp only at hg
  have := ht.lt; have := h0.lt; have := h1.lt; have := hB.lt
  split at hg
  · omega
  · split at hg
    · omega
    · split at hg
      · omega
      · split at hg
        · omega
        · exact absurd rfl hg
 refine ⟨lab, tm_new hB (owns_made h0 (by omega) hd) (owns_made h1 (by omega) hd) ?_ (by rw [hl]; simp) (by rw [hl]; simp [e3]) ?_ ?_, ?_, fun g hg => by have := (hG g hg).1; omega⟩
 · exact ⟨rfl, .inr ⟨w2.heap.size, 0, #[], rfl, hs, ht, Nat.le_refl _, by unfold maxLen; omega, rfl, rfl⟩⟩
 · rw [hl]; simp only; rw [if_neg e4, if_neg (fun e => e2 e.symm), if_pos trivial]
 · intro g hg
   cases hg
   rw [hl]; simp only; rw [if_neg (by omega), if_neg (by omega), if_neg (by omega), if_pos trivial]
 · exact hlx.mine (Keeps.ofOld hX _) (fun g e => e.elim) (fun g hg => .inr (hG g hg))
end
end Go.Proofs.YtfclnhmijjlhdaaGreatDoor.Cr

namespace Go.Proofs.YtfclnhmijjlhdaaGreatDoor.Cr
open Go.RowKit
open Go.Proofs.YtfclnhmijjlhdaaGreatDoor.Rg
open Go.Proofs.YtfclnhmijjlhdaaGreatDoor.Gm (St stC stepP Ms Tab beginS)
open Go.Proofs.YtfclnhmijjlhdaaGreatDoor.Ev (Ev Evs At bt br bal bd1 bdn flat flat_at)
open Go.Proofs.YtfclnhmijjlhdaaGreatDoor.Co (Co now setN offerE offerM hearE hearM repairM stepE stepM freeTo freeM play plays runS knownI)
set_option linter.unusedVariables false
set_option maxRecDepth 100000

attribute [local go_sem ↓] fold_ap
theorem u8_cells (w : World) (x : Int) : ∀ j u, [Value.int .u8 x][j]? = some u → (w.alloc (.cells #[.int .u8 x] 5)).cell? ((⟨w.heap.size, 0, none⟩ : Addr).add j) = some u := by
 intro j u hj
 rw [Addr.add_lit, cell_of_row _ _ _ _ _ _ (At.new w #[.int .u8 x] 5), Nat.zero_add]
 simpa using hj
theorem ap_u8 (w : World) (n₀ : Nat) (v : Value) (n : Nat) (xs : List Value) (h : w.ownsRow n₀ 5 1 v n xs) (hn : n ≤ 1073741825) (hb : n₀ ≤ w.heap.size) (x : Int) (ty : TypeId) :
 ∃ v' w', (AP #[41, 41] ty #[v, .slice (some ⟨w.heap.size, 0, none⟩) 1 1]).run Tryz.prog (w.alloc (.cells #[.int .u8 x] 5)) = .ok v' w' ∧ w'.ownsRow n₀ 5 1 v' (n + 1) (xs ++ [.int .u8 x]) ∧ (w.alloc (.cells #[.int .u8 x] 5)).grownBy w' v.ownBlock ∧ (v'.ownBlock = v.ownBlock ∨ v'.ownBlock = some (w.heap.size + 1)) := by
 obtain ⟨i0, hi, hz0, hz1, hz2⟩ := info_parts Ru.info_u8
 obtain ⟨v', w', h1, h2, h3, _, h5⟩ := run_append_own_at (P := Tryz.prog) (w := w.alloc (.cells #[.int .u8 x] 5)) n₀ 41 ty 5 i0 (.int .u8 0) 1 1 Tryz.underlying41 hi hz0 hz1 hz2 rfl (by decide) v n xs (h.alloc _) ⟨w.heap.size, 0, none⟩ 1 1 [.int .u8 x] rfl (u8_cells w x) (by simp [Value.oneCell']) (by unfold maxLen; omega) (by omega) (by rw [World.size_alloc]; omega)
 rw [World.size_alloc] at h5
 exact ⟨v', w', h1, h2, h3, h5⟩
theorem tacts_at {w : World} {ad : Option Addr} {len : Nat} (h : Acts w ad len) (X : World) (hX : Below w.heap.size w X) (j : Nat) (hj : j < len) : ∃ (c off : Nat) (kd f x : Int), ad = some ⟨c, off, none⟩ ∧ (0 ≤ x ∧ x ≤ 255) ∧
 X.cell? ⟨c, off + j * 3, none⟩ = some (.int .i64 kd) ∧ X.cell? ⟨c, off + j * 3 + 1, none⟩ = some (.int .i64 f) ∧ X.cell? ⟨c, off + j * 3 + 2, none⟩ = some (.int .u8 x) := by
 obtain ⟨c, off, kd, f, x, e1, e2, e3, e4, e5, e6⟩ := h j hj
 exact ⟨c, off, kd, f, x, e1, e3, (hX.cell (p := ⟨c, off + j * 3, none⟩) e2).trans e4, (hX.cell (p := ⟨c, off + j * 3 + 1, none⟩) e2).trans e5, (hX.cell (p := ⟨c, off + j * 3 + 2, none⟩) e2).trans e6⟩
/-- the law on its way: the core, behind i acts; its config; the inputs that were taken; what was told. -/
structure Tq (w1 W : World) (b : Nat) (c : C) (s0 : St) (i N : Nat) (cfg : Array Value) (B : Nat) (v0 v1 tv : Value) (TL : List Value) (lab : Nat → Nat) : Prop where
 lx : Lx w1 W b c (Gl lab)
 ge : ∀ g, Gl lab g → w1.heap.size ≤ g
 ho : Ho s0 c i
 tm : Tm w1.heap.size W B v0 (c.F 0).L v1 (c.F 1).L tv TL c.T lab
 cf : At w1 N cfg 24
theorem Tq.below {w1 W W' : World} {b : Nat} {c : C} {s0 : St} {i N : Nat} {cfg : Array Value} {B : Nat} {v0 v1 tv : Value} {TL : List Value} {lab : Nat → Nat} (h : Tq w1 W b c s0 i N cfg B v0 v1 tv TL lab) (g : Below W.heap.size W W') : Tq w1 W' b c s0 i N cfg B v0 v1 tv TL lab :=
 ⟨h.lx.below g, h.ge, h.ho, h.tm.below g, h.cf⟩
theorem Tq.hz {w1 W : World} {b : Nat} {c : C} {s0 : St} {i N : Nat} {cfg : Array Value} {B : Nat} {v0 v1 tv : Value} {TL : List Value} {lab : Nat → Nat} (h : Tq w1 W b c s0 i N cfg B v0 v1 tv TL lab) : ∀ g, W.heap.size ≤ g → lab g = 0 := fun g hg => by
 rcases Nat.eq_zero_or_pos (lab g) with e | e
 · exact e
 · have := h.lx.lt g (by show lab g ≠ 0; omega); omega
/-- blocks of the law's own are made; the first one gets the label 6. -/
theorem Tq.made {w1 W W' : World} {b : Nat} {c : C} {s0 : St} {i N : Nat} {cfg : Array Value} {B : Nat} {v0 v1 tv : Value} {TL : List Value} {lab : Nat → Nat} (h : Tq w1 W b c s0 i N cfg B v0 v1 tv TL lab) (hB : Below W.heap.size W W') (hl : W.heap.size < W'.heap.size) : Tq w1 W' b c s0 i N cfg B v0 v1 tv TL (labP lab (some W.heap.size) 6) := by
 have hs := h.lx.old.size
 refine ⟨h.lx.mine (Keeps.ofOld hB _) h.ge (fun g hg => ?_), fun g hg => ?_, h.ho, (h.tm.below hB).re (labP_old (fun g e => .inl (by cases e; exact h.hz _ (Nat.le_refl _)))), h.cf⟩
 · unfold Gl labP at hg
   split at hg
   · rename_i e; cases e; exact .inr ⟨Nat.le_refl _, hl⟩
   · exact .inl hg
 · unfold Gl labP at hg
   split at hg
   · rename_i e; cases e; exact hs
   · exact h.ge g hg
theorem Tq.act {w1 W : World} {b : Nat} {c : C} {s0 : St} {i N : Nat} {cfg : Array Value} {B : Nat} {v0 v1 tv : Value} {TL : List Value} {lab : Nat → Nat} (h : Tq w1 W b c s0 i N cfg B v0 v1 tv TL lab) (o : Obj) : Tq w1 (W.alloc o) b c s0 i N cfg B v0 v1 tv TL (labP lab (some W.heap.size) 6) :=
 h.made (bal (br W) o) (by rw [World.size_alloc]; omega)
theorem offer_no {c : C} {x : Int} (h : offerE c x ≠ 0) : offerM c x = c := by unfold offerM; rw [if_neg h]
theorem offer_L {c : C} {x : Int} (h : offerE c x = 0) (t : Nat) : ((offerM c x).F t).L = if t = c.me then (c.F t).L ++ [x] else (c.F t).L := by
 have hE : Fd.putE (c.F c.me) ((c.F c.me).L.length : Int) x = 0 := by
  have h2 := h
  unfold offerE at h2
  split at h2; · cases h2
  split at h2; · cases h2
  exact h2
 unfold offerM
 rw [if_pos h]
 show (Co.upF c.F c.me _ t).L = _
 unfold Co.upF
 split
 · rename_i e; rw [Fd.putM_yes hE, e]
 · rfl
theorem offer_T (c : C) (x : Int) : (offerM c x).T = c.T ∧ (offerM c x).me = c.me := by unfold offerM; split <;> exact ⟨rfl, rfl⟩
theorem owns_lt {W : World} {n e m p : Nat} {v : Value} {xs : List Value} (h : W.ownsRow n e m v p xs) {g : Nat} (hg : v.ownBlock = some g) : g < W.heap.size := by
 rcases h.2 with ⟨rfl, _⟩ | ⟨g', cap, cur, rfl, _, hb, _⟩
 · cases hg
 · simp [Value.ownBlock] at hg
   subst hg
   exact (Array.getElem?_eq_some_iff.1 hb).1
/-- one of the law's own lists has grown. -/
theorem tq_grown {w1 W W' : World} {b : Nat} {c : C} {tv v' : Value} {lab : Nat → Nat} {d : Nat} (hl : Lx w1 W b c (Gl lab)) (hge : ∀ g, Gl lab g → w1.heap.size ≤ g) (hd : d ≠ 0) (hv : v'.ownBlock = tv.ownBlock ∨ v'.ownBlock = some (W.heap.size + 1)) (htv : ∀ g, tv.ownBlock = some g → lab g = d) (k : Keeps (Gl lab) W W') (hlt : ∀ g, v'.ownBlock = some g → g < W'.heap.size) :
 Lx w1 W' b c (Gl (labP lab v'.ownBlock d)) ∧ ∀ g, Gl (labP lab v'.ownBlock d) g → w1.heap.size ≤ g := by
 have hs := hl.old.size
 have hG : ∀ g, Gl (labP lab v'.ownBlock d) g → Gl lab g ∨ W.heap.size ≤ g ∧ g < W'.heap.size := by
  intro g hg
  by_cases e : v'.ownBlock = some g
  · rcases hv with e2 | e2
    · exact .inl (by show lab g ≠ 0; rw [htv g (e2 ▸ e)]; exact hd)
    · have := hlt g e; rw [e2] at e; cases e; exact .inr ⟨by omega, this⟩
  · unfold Gl labP at hg
    rw [if_neg e] at hg
    exact .inl hg
 refine ⟨hl.mine k hge hG, fun g hg => ?_⟩
 rcases hG g hg with h1 | h1
 · exact hge g h1
 · omega
/-- an input was taken, and is put behind the others. -/
theorem tq_put {w1 W W' : World} {b : Nat} {c : C} {tv v' : Value} {lab : Nat → Nat} {d : Nat} (hl : Lx w1 W b c (Gl lab)) (hge : ∀ g, Gl lab g → w1.heap.size ≤ g) (hd : d ≠ 0) (hv : v'.ownBlock = tv.ownBlock ∨ v'.ownBlock = some (W.drew.heap.size + 1)) (htv : ∀ g, tv.ownBlock = some g → lab g = d) (k : Keeps (Gl lab) W.drew W') (hlt : ∀ g, v'.ownBlock = some g → g < W'.heap.size) :
 Lx w1 W' b c (Gl (labP lab v'.ownBlock d)) ∧ ∀ g, Gl (labP lab v'.ownBlock d) g → w1.heap.size ≤ g :=
 tq_grown (hl.below (bd1 (br W))) hge hd hv htv k hlt
theorem tq_new {w1 w2 W0 X : World} {b d wi me : Nat} {s0 : St} {N : Nat} {cfg : Array Value} (hlx : Lx w1 w2 b ⟨d, wi, me, fun _ => Dl d, [s0], [], 0⟩ (fun _ => False)) (ho : Ho s0 ⟨d, wi, me, fun _ => Dl d, [s0], [], 0⟩ 0) (hd : d ≤ 8) (hsz : W0.heap.size = w2.heap.size + 1) (hto : At W0 w2.heap.size #[] 49) (hb0 : Below w2.heap.size w2 W0) (hcf : At w1 N cfg 24)
 (hX : Below W0.heap.size W0 X) {B g0 g1 : Nat} (hB : At X B #[.slice (some ⟨g0, 0, none⟩) d d, .slice (some ⟨g1, 0, none⟩) d d] 42) (h0 : At X g0 (madeCells #[.int .u8 0] d) 5) (h1 : At X g1 (madeCells #[.int .u8 0] d) 5)
 (eB : W0.heap.size ≤ B) (e0 : W0.heap.size ≤ g0) (e1 : W0.heap.size ≤ g1) (e2 : g0 ≠ g1) (e3 : g0 ≠ B) (e4 : g1 ≠ B) :
 ∃ B' v0 v1 lab, (Value.pointer (some ⟨B, 0, none⟩)) = .pointer (some ⟨B', 0, none⟩) ∧ Tq w1 X b ⟨d, wi, me, fun _ => Dl d, [s0], [], 0⟩ s0 0 N cfg B' v0 v1 (.slice (some ⟨w2.heap.size, 0, none⟩) 0 0) [] lab := by
 obtain ⟨lab, t1, t2, t3⟩ := mk3 hlx (bt hb0 hX) (by omega) (hto.below hX) h0 h1 hB (by omega) (by omega) (by omega) e2 e3 e4
 exact ⟨B, _, _, lab, rfl, t2, t3, ho, t1, hcf⟩

theorem hear_L (c : C) (f x : Int) (t : Nat) : ((hearM c f x).F t).L = if t = 1 - c.me ∧ hearE c f x = 0 then (c.F t).L ++ [x] else (c.F t).L := by
 show (Co.upF c.F (1 - c.me) (Fd.putM (c.F (1 - c.me)) f x) t).L = _
 unfold Co.upF
 by_cases ht : t = 1 - c.me
 · rw [if_pos ht, ht]
   by_cases hz : hearE c f x = 0
   · rw [if_pos ⟨rfl, hz⟩, Fd.putM_yes (show Fd.putE (c.F (1 - c.me)) f x = 0 from hz)]
   · rw [if_neg (fun e => hz e.2), Fd.putM_no (show Fd.putE (c.F (1 - c.me)) f x ≠ 0 from hz)]
 · rw [if_neg ht, if_neg (fun e => ht e.1)]
theorem hear_L1 {c : C} {f x : Int} (h : hearE c f x = 0) (t : Nat) : ((hearM c f x).F t).L = if t = 1 - c.me then (c.F t).L ++ [x] else (c.F t).L := by
 rw [hear_L]
 by_cases ht : t = 1 - c.me
 · rw [if_pos ⟨ht, h⟩, if_pos ht]
 · rw [if_neg (fun e => ht e.1), if_neg ht]
theorem hear_L0 {c : C} {f x : Int} (h : hearE c f x ≠ 0) (t : Nat) : ((hearM c f x).F t).L = (c.F t).L := by rw [hear_L, if_neg (fun e => h e.2)]
theorem hear_T (c : C) (f x : Int) : (hearM c f x).T = c.T ∧ (hearM c f x).me = c.me := ⟨rfl, rfl⟩
theorem play_L (c : C) (k t : Nat) : ((play stepP c k).F t).L = (c.F t).L := by
 unfold play
 split
 · exact Fd.take_L _ _
 · rfl
theorem plays_L (c : C) (k t : Nat) : ∀ n, ((plays stepP c k n).F t).L = (c.F t).L
 | 0 => rfl
 | n + 1 => (play_L _ _ _).trans (plays_L c k t n)
theorem repair_L (c : C) (t : Nat) : ((repairM stepP c).F t).L = (c.F t).L := by
 unfold repairM
 split
 · exact plays_L _ _ _ _
 · rfl
theorem play_me (c : C) (k : Nat) : (play stepP c k).me = c.me := by unfold play; split <;> rfl
theorem step_L (c : C) (t : Nat) : ((stepM stepP c).F t).L = (c.F t).L ∧ (stepM stepP c).me = c.me := by
 unfold stepM
 split
 · exact ⟨play_L _ _ _, play_me _ _⟩
 · exact ⟨rfl, rfl⟩
section
variable {w1 W W' : World} {b : Nat} {c c' : C} {s0 : St} {i N : Nat} {cfg : Array Value} {B : Nat} {v0 v1 tv : Value} {TL : List Value} {lab : Nat → Nat}
/-- blocks of the label 6 are written. -/
theorem Tq.own (h : Tq w1 W b c s0 i N cfg B v0 v1 tv TL lab) (k : Keeps (fun g => lab g = 6) W W') : Tq w1 W' b c s0 i N cfg B v0 v1 tv TL lab := by
 obtain ⟨m1, m2, m3, m4, m5⟩ := h.tm.but k (d := 6) (fun g _ e => e)
 exact ⟨h.lx.mine (k.mono (fun g _ e => by show lab g ≠ 0; rw [e]; decide)) h.ge (fun g hg => .inl hg), h.ge, h.ho,
  ⟨m1 (by decide), h.tm.lb, m2 (by decide), h.tm.l0, m3 (by decide), h.tm.l1, m4 (by decide), h.tm.lt, h.tm.tl, m5 (by decide)⟩, h.cf⟩
/-- blocks of a call's answer are events'. -/
theorem Tq.labs (h : Tq w1 W b c s0 i N cfg B v0 v1 tv TL lab) {S : Nat → Prop} (hl : Lx w1 W' b c' (fun g => Gl lab g ∨ S g)) (hk : Kx (Gl lab) W W') (hS : ∀ g, S g → W.heap.size ≤ g) :
 ∃ lab', Lx w1 W' b c' (Gl lab') ∧ (∀ g, Gl lab' g → w1.heap.size ≤ g) ∧ Tm w1.heap.size W' B v0 (c.F 0).L v1 (c.F 1).L tv TL c.T lab' ∧ (∀ g, S g → lab' g = 5) ∧ ∀ g, lab g ≠ 0 → lab' g = lab g := by
 classical
 have hs := h.lx.old.size
 have hold : ∀ g, lab g ≠ 0 → (fun g => if S g then 5 else lab g) g = lab g := fun g hg => if_neg (fun e => hg (h.hz g (hS g e)))
 have hof : ∀ g, Gl (fun g => if S g then 5 else lab g) g → Gl lab g ∨ S g := fun g hg => by
  by_cases e : S g
  · exact .inr e
  · exact .inl (fun e2 => hg ((if_neg e).trans e2))
 refine ⟨fun g => if S g then 5 else lab g, hl.less hof, fun g hg => ?_, (h.tm.kx hk).re hold, fun g hg => if_pos hg, hold⟩
 rcases hof g hg with e | e
 · exact h.ge g e
 · exact Nat.le_trans hs (hS g e)
end
theorem info_evs : (Tryz.prog.info? 49).map (fun i => (i.zero, i.size, i.bytes)) = some (some (.slice none 0 0), 1, 24) := by kernel_rfl
theorem evl_cells (w : World) (x : Option Addr) (y z : Nat) : ∀ j u, [Value.slice x y z][j]? = some u → (w.alloc (.cells #[.slice x y z] 49)).cell? ((⟨w.heap.size, 0, none⟩ : Addr).add j) = some u := by
 intro j u hj
 rw [Addr.add_lit, cell_of_row _ _ _ _ _ _ (At.new w #[.slice x y z] 49), Nat.zero_add]
 simpa using hj
theorem ap_evs (w : World) (n₀ : Nat) (v : Value) (n : Nat) (xs : List Value) (h : w.ownsRow n₀ 49 1 v n xs) (hn : n ≤ 1073741825) (hb : n₀ ≤ w.heap.size) (x : Option Addr) (y z : Nat) (ty : TypeId) :
 ∃ v' w', (AP #[40, 40] ty #[v, .slice (some ⟨w.heap.size, 0, none⟩) 1 1]).run Tryz.prog (w.alloc (.cells #[.slice x y z] 49)) = .ok v' w' ∧ w'.ownsRow n₀ 49 1 v' (n + 1) (xs ++ [.slice x y z]) ∧ (w.alloc (.cells #[.slice x y z] 49)).grownBy w' v.ownBlock ∧ (v'.ownBlock = v.ownBlock ∨ v'.ownBlock = some (w.heap.size + 1)) := by
 obtain ⟨i0, hi, hz0, hz1, hz2⟩ := info_parts info_evs
 obtain ⟨v', w', h1, h2, h3, _, h5⟩ := run_append_own_at (P := Tryz.prog) (w := w.alloc (.cells #[.slice x y z] 49)) n₀ 40 ty 49 i0 (.slice none 0 0) 1 24 Tryz.underlying40 hi hz0 hz1 hz2 rfl (by decide) v n xs (h.alloc _) ⟨w.heap.size, 0, none⟩ 1 1 [.slice x y z] rfl (evl_cells w _ _ _) (by simp [Value.oneCell']) (by unfold maxLen; omega) (by omega) (by rw [World.size_alloc]; omega)
 rw [World.size_alloc] at h5
 exact ⟨v', w', h1, h2, h3, h5⟩
section
variable {c : C} {s0 : St} {i : Nat}
theorem Ho.known (h : Ho s0 c i) {q t : Nat} (ht : t < 2) (hq : q < setN c) : (c.F t).L[q]? = some (knownI c t q) ∧ 0 ≤ knownI c t q ∧ knownI c t q ≤ 63 ∧ q < (c.F t).L.length := by
 obtain ⟨U, hI⟩ := h.inv
 have h1 := hI.true_at hq ht
 have hl := (List.getElem?_eq_some_iff.1 h1).1
 have hm := (hI.ok t ht).may _ (List.mem_of_getElem? h1)
 have e : knownI c t q = U t q := by unfold Co.knownI; rw [h1]; rfl
 rw [e]
 exact ⟨h1, hm.1, hm.2, hl⟩
theorem Ho.ran (h : Ho s0 c i) {q : Nat} (hq : q ≤ setN c) : c.S[q]? = some (runS stepP s0 (knownI c) q) := by
 obtain ⟨U, hI⟩ := h.inv
 have hn : setN c ≤ now c := by unfold setN; omega
 rw [hI.run q (by omega)]
 congr 1
 refine Co.runS_congr (fun k hk => ?_)
 have h0 := hI.true_at (k := k) (by omega) (i := 0) (by omega)
 have h1 := hI.true_at (k := k) (by omega) (i := 1) (by omega)
 unfold Co.knownI
 rw [h0, h1]
 exact ⟨rfl, rfl⟩
theorem Ho.tld (h : Ho s0 c i) {q : Nat} (hq : q < setN c) : c.T[q]? = some (stepP (runS stepP s0 (knownI c) q) (knownI c 0 q) (knownI c 1 q)).2 := by
 obtain ⟨U, hI⟩ := h.inv
 exact hI.settled.2 q hq
theorem Ho.set_le (h : Ho s0 c i) : setN c ≤ now c ∧ now c ≤ i ∧ c.first ≤ setN c ∧ c.T.length = now c ∧ c.S.length = now c + 1 := by
 obtain ⟨U, hI⟩ := h.inv
 have := h.nw
 refine ⟨by unfold setN; omega, by omega, hI.fle, hI.lenT2, hI.lenS⟩
end
theorem owns_form {w : World} {base e size n : Nat} {v : Value} {xs : List Value} (h : w.ownsRow base e size v n xs) (hn : 0 < n) : ∃ g cap, v = .slice (some ⟨g, 0, none⟩) n cap := by
 rcases h.2 with ⟨_, h0⟩ | ⟨g, cap, cur, hv, _⟩
 · omega
 · exact ⟨g, cap, hv⟩
/-- one element of a list of the law's own. -/
theorem owns_at {W : World} {n e : Nat} {v : Value} {m : Nat} {xs : List Value} (h : W.ownsRow n e 1 v m xs) {j : Nat} {u : Value} (hj : xs[j]? = some u) : ∃ g cap, v = .slice (some ⟨g, 0, none⟩) m cap ∧ W.cell? ⟨g, j, none⟩ = some u ∧ g < W.heap.size ∧ j < m := by
 have hl : xs.length = m := by have := h.1; omega
 have hjl := (List.getElem?_eq_some_iff.1 hj).1
 obtain ⟨g, cap, rfl⟩ := owns_form h (by omega)
 refine ⟨g, cap, rfl, ?_, owns_lt h rfl, by omega⟩
 rw [h.cellAt j (by omega), hj]
/-- what was told, while the pages of a repair are gone through: right below m. -/
structure Rp (w1 W : World) (b : Nat) (c c' : C) (B : Nat) (v0 v1 : Value) (L0 L1 : List Int) (tv : Value) (TL : List Value) (T : List (List Ev)) (lab : Nat → Nat) (n3 : Nat) (P : List (Int × Value)) (pv : Value) (k m : Nat) : Prop where
 lx : Lx w1 W b c' (Gl lab)
 tm : Tm w1.heap.size W B v0 L0 v1 L1 tv TL T lab
 len : T.length = c'.T.length
 low : ∀ j, j < m → T[j]? = c'.T[j]?
 row : W.ownsRow n3 51 2 pv P.length (flat pcs P)
 rl : ∀ g, pv.ownBlock = some g → lab g = 5
 pg : Pgs W P c c' k
 pl : ∀ j p x, P[j]? = some p → c'.T[k + j]? = some x → ∀ g, nb p.2 x g → lab g = 5
section
variable {w1 W W' : World} {b : Nat} {c c' : C} {s0 : St} {i N : Nat} {cfg : Array Value} {B : Nat} {v0 v1 tv pv : Value} {L0 L1 : List Int} {TL : List Value} {T : List (List Ev)} {lab : Nat → Nat} {n3 k m : Nat} {P : List (Int × Value)}
theorem Rp.below (h : Rp w1 W b c c' B v0 v1 L0 L1 tv TL T lab n3 P pv k m) (g : Below W.heap.size W W') : Rp w1 W' b c c' B v0 v1 L0 L1 tv TL T lab n3 P pv k m := by
 have kx : Kx (fun _ => True) W W' := kx_below g
 refine ⟨h.lx.below g, h.tm.below g, h.len, h.low, Keeps.row (kx_below g : Kx (fun _ => True) W W') h.row (fun _ _ e => e trivial), h.rl, ⟨h.pg.le, h.pg.len, fun j p hp => ?_, h.pg.low, h.pg.lenT⟩, h.pl⟩
 obtain ⟨e1, x, e2, e3⟩ := h.pg.at' j p hp
 exact ⟨e1, x, e2, evs_kx e3 kx (fun _ _ => trivial)⟩
theorem Rp.set (h : Rp w1 W b c c' B v0 v1 L0 L1 tv TL T lab n3 P pv k m) {g cap : Nat} (e : tv = .slice (some ⟨g, 0, none⟩) TL.length cap) (hge : ∀ g, Gl lab g → w1.heap.size ≤ g) {j : Nat} (hm : k + j = m) {p : Int × Value} (hp : P[j]? = some p) :
 ∃ x, Rp w1 (W.setCell ⟨g, m, none⟩ p.2) b c c' B v0 v1 L0 L1 tv (TL.set m p.2) (T.set m x) lab n3 P pv k (m + 1) := by
 obtain ⟨e1, x, e2, e3⟩ := h.pg.at' j p hp
 rw [hm] at e2
 have hb : ∀ g, nb p.2 x g → lab g = 5 := h.pl j p x hp (by rw [hm]; exact e2)
 obtain ⟨t, kk⟩ := h.tm.set e (f := m) e3 hb
 have hg4 : lab g = 4 := h.tm.lt g (by rw [e]; rfl)
 have k1 : Keeps (fun i => i = g) W (W.setCell ⟨g, m, none⟩ p.2) := (Keeps.refl (fun i => i = g) W).setCell (p := ⟨g, m, none⟩) (fun _ => rfl) _
 have hml := (List.getElem?_eq_some_iff.1 e2).1
 refine ⟨x, h.lx.mine kk hge (fun g hg => .inl hg), t, by rw [List.length_set]; exact h.len, fun j hj => ?_, k1.row h.row (fun i hi e => by have := h.rl i hi; rw [e, hg4] at this; cases this), h.rl, ⟨h.pg.le, h.pg.len, fun j p hp => ?_, h.pg.low, h.pg.lenT⟩, h.pl⟩
 · rw [List.getElem?_set]
   by_cases ej : m = j
   · rw [if_pos ej, if_pos (by rw [h.len]; omega), ← ej]
     exact e2.symm
   · rw [if_neg ej]
     exact h.low j (by omega)
 · obtain ⟨e4, y, e5, e6⟩ := h.pg.at' j p hp
   exact ⟨e4, y, e5, evs_kx (G := fun g => nb p.2 y g) e6 (k1.mono (fun i _ hi hn => by have := h.pl j p y hp e5 i hn; rw [hi, hg4] at this; cases this)) (fun _ hg => hg)⟩
theorem Rp.all (h : Rp w1 W b c c' B v0 v1 L0 L1 tv TL T lab n3 P pv k m) (hm : c'.T.length ≤ m) : T = c'.T := List.ext_getElem? fun j => by
 by_cases hj : j < m
 · exact h.low j hj
 · rw [List.getElem?_eq_none (by rw [h.len]; omega), List.getElem?_eq_none (by omega)]
/-- the page at j. -/
theorem Rp.page (h : Rp w1 W b c c' B v0 v1 L0 L1 tv TL T lab n3 P pv k m) {j : Nat} (hj : j < P.length) (hm : k + j = m) : ∃ g cap gt capt p a L capv, pv = .slice (some ⟨g, 0, none⟩) P.length cap ∧ tv = .slice (some ⟨gt, 0, none⟩) TL.length capt ∧ P[j]? = some p ∧ p.2 = .slice a L capv ∧ m < TL.length ∧
 W.cell? ⟨g, j * 2, none⟩ = some (.int .i64 (m : Int)) ∧ W.cell? ⟨g, j * 2 + 1, none⟩ = some (.slice a L capv) ∧ (∃ u, W.cell? ⟨gt, m, none⟩ = some u) ∧ W.frozen? ⟨gt, m, none⟩ = false := by
 obtain ⟨p, hpj⟩ : ∃ p, P[j] = p := ⟨_, rfl⟩
 have hp : P[j]? = some p := by rw [List.getElem?_eq_getElem hj, hpj]
 obtain ⟨e1, x, e2, e3⟩ := h.pg.at' j p hp
 obtain ⟨a, L, capv, e4, _⟩ := id e3
 rw [hm] at e1 e2
 have hml := (List.getElem?_eq_some_iff.1 e2).1
 have htl := h.tm.tl
 have hlen := h.len
 have hr := h.row
 have hq := h.tm.rt
 obtain ⟨g, cap, rfl⟩ := owns_form hr (by omega)
 obtain ⟨gt, capt, rfl⟩ := owns_form hq (by omega)
 refine ⟨g, cap, gt, capt, p, a, L, capv, rfl, rfl, hp, e4, by omega, ?_, ?_, ?_, hq.frozenAt m⟩
 · rw [hr.cellAt (j * 2) (by omega), show j * 2 = j * 2 + 0 from rfl, flat_at (k := 2) (fun _ => rfl) P j hj 0 (by omega), hpj]
   show some (Value.int .i64 p.1) = _
   rw [e1]
 · rw [hr.cellAt (j * 2 + 1) (by omega), flat_at (k := 2) (fun _ => rfl) P j hj 1 (by omega), hpj]
   show some p.2 = _
   rw [e4]
 · rw [hq.cellAt m (by omega)]
   exact ⟨_, List.getElem?_eq_getElem (by omega)⟩
end
end Go.Proofs.YtfclnhmijjlhdaaGreatDoor.Cr
