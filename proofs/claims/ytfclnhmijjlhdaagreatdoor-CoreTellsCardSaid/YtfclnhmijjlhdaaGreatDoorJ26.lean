/- A core of which the plain facts hold, in memory, behind each call (layer 15, core). -/
/- Acts and configs that come in (layer 15, core). -/
import Derived.Test.YtfclnhmijjlhdaaGreatDoorCrRepWalk
import Derived.ProofKit
import Derived.OpenShut
import Derived.Carry
import Derived.Deep.Slices
import Derived.Deep.SlicePairs
import Derived.Deep.Strs
import Derived.Deep.Fields
namespace Go.Proofs.YtfclnhmijjlhdaaGreatDoor.Cr
open Go.RowKit
open Go.Proofs.YtfclnhmijjlhdaaGreatDoor.Rg
open Go.Proofs.YtfclnhmijjlhdaaGreatDoor.Fd (Fed takeM putM putE trimM knB)
open Go.Proofs.YtfclnhmijjlhdaaGreatDoor.Gm (St stC stepP Ms Tab)
open Go.Proofs.YtfclnhmijjlhdaaGreatDoor.Ev (Ev Evs At bt br bal bd1 bdn flat)
open Go.Proofs.YtfclnhmijjlhdaaGreatDoor.Co (Co now common full other setN putAt putAt_len putAt_get play plays offerE offerM hearE hearM repairM stepE stepM freeTo freeM freeN Inv)
set_option linter.unusedVariables false
set_option maxRecDepth 100000

/-- what holds of a core in the laws, behind at most i calls. -/
structure Ho (s0 : St) (c : C) (i : Nat) : Prop where
 inv : ∃ U, Inv stepP s0 c U
 gd : Gd c.S
 d8 : c.d ≤ 8
 w16 : c.w ≤ 16
 nw : now c ≤ i
theorem Ho.more {s0 : St} {c : C} {i j : Nat} (h : Ho s0 c i) (hj : i ≤ j) : Ho s0 c j := ⟨h.inv, h.gd, h.d8, h.w16, Nat.le_trans h.nw hj⟩
theorem Ho.cm {s0 : St} {c : C} {i : Nat} (h : Ho s0 c i) : cm c.F ≤ 1073741825 := by
 obtain ⟨U, hI⟩ := h.inv
 have := (hI.ok 0 (by omega)).len
 unfold Cr.cm
 omega
theorem Ho.wr {s0 : St} {c : C} {i : Nat} (h : Ho s0 c i) {k : Nat} (hw : Fd.wrong (c.F (1 - c.me)) = some k) : c.first ≤ k ∧ k < now c ∧ k < common c := by
 obtain ⟨U, hI⟩ := h.inv
 obtain ⟨h1, h2, h3⟩ := hI.wrongLt (show Fd.wrong (c.F (other c)) = some k from hw)
 refine ⟨h3, h1, ?_⟩
 have h4 := hI.own
 have h5 := hI.me2
 unfold common
 rcases (show c.me = 0 ∨ c.me = 1 by omega) with e | e
 · have e2 : other c = 1 := by unfold other; omega
   rw [e] at h4; rw [e2] at h2; omega
 · have e2 : other c = 0 := by unfold other; omega
   rw [e] at h4; rw [e2] at h2; omega
theorem Ho.sv {s0 : St} {c : C} {i : Nat} (h : Ho s0 c i) : sV c.F c.me (now c) = (setN c : Int) - 1 := by
 unfold sV setN
 rw [show other c = 1 - c.me from rfl]
 cases hw : Fd.wrong (c.F (1 - c.me)) with
 | none =>
  simp only
  have : common c = Cr.cm c.F := rfl
  rw [this]
  omega
 | some k =>
  obtain ⟨h1, h2, h3⟩ := h.wr hw
  simp only
  omega
theorem ofE_eq (c : C) (x : Int) : ofE c.F c.d c.w c.me (now c) x = offerE c x := by
 unfold ofE offerE full
 have : common c = Cr.cm c.F := rfl
 rw [this]
 by_cases h : Cr.cm c.F + c.w ≤ now c
 · rw [if_pos h, if_pos (decide_eq_true h)]
 · have h2 : ¬ decide (Cr.cm c.F + c.w ≤ now c) = true := by rw [decide_eq_true_iff]; exact h
   rw [if_neg h, if_neg h2]

/-- the core c in block b, in memory made since world w. -/
structure Lc (w W : World) (b : Nat) (c : C) : Prop where
 cp : ∃ bf FF bs ao cap, CPc W w.heap.size b bf FF bs ao cap c
 old : Below w.heap.size w W
theorem Lc.below {w W W' : World} {b : Nat} {c : C} (h : Lc w W b c) (g : Below W.heap.size W W') : Lc w W' b c := by
 obtain ⟨bf, FF, bs, ao, cap, k⟩ := h.cp
 exact ⟨⟨bf, FF, bs, ao, cap, k.old g⟩, bt h.old g⟩
theorem lc_of {w W W' : World} {b : Nat} {c c' : C} {bf : Nat → Nat} {FF FF' : Nat → Nat → Prop} {bs : Nat} {ao ao' : Option Addr} {cap cap' : Nat} (h : CPc W w.heap.size b bf FF bs ao cap c) (ho : Below w.heap.size w W) (k : CPc W' w.heap.size b bf FF' bs ao' cap' c') (hk : Keeps (GG b FF bs ao) W W') :
 Lc w W' b c' ∧ Kd W W' :=
 ⟨⟨⟨bf, FF', bs, ao', cap', k⟩, ho.trans (hk.below ho.size h.gge)⟩, kd_keeps hk (fun B cs T hB hT => h.apart hB hT)⟩

section
variable {w W : World} {b : Nat} {c : C} {s0 : St} {i : Nat}
theorem Lc.offer (h : Lc w W b c) (ho : Ho s0 c i) (hi : i ≤ 1000000) (x : Int) (hx : 0 ≤ x) :
 Calls Tryz.prog 14 #[.pointer (some ⟨b, 0, none⟩), .int .u8 x] W fun e w' => (∃ y, e = .returned (.tuple #[.int .i64 y, .int .i64 (offerE c x)])) ∧ Lc w w' b (offerM c x) ∧ Kd W w' := by
 obtain ⟨bf, FF, bs, ao, cap, k⟩ := h.cp
 obtain ⟨U, hI⟩ := ho.inv
 have := ho.nw
 refine (offer_z x hx hI.me2 ho.d8 ho.w16 (fun t ht => (hI.ok t ht).len) (by omega) (Cz.self k)).mono ?_
 rintro e w' ⟨rfl, FF', ao', cap', k1, k2, k3⟩
 rw [ofE_eq]
 refine ⟨⟨_, rfl⟩, lc_of k h.old (c' := offerM c x) (FF' := FF') (ao' := ao') (cap' := cap') ?_ k3⟩
 · unfold ofM at k1
   rw [ofE_eq] at k1
   unfold offerM
   by_cases he : offerE c x = 0
   · rw [if_pos he] at k1 ⊢
     exact k1
   · rw [if_neg he] at k1 ⊢
     exact k1
theorem Lc.hear (h : Lc w W b c) (ho : Ho s0 c i) (f x : Int) (hx : 0 ≤ x) :
 Calls Tryz.prog 15 #[.pointer (some ⟨b, 0, none⟩), .int .i64 f, .int .u8 x] W fun e w' => e = .returned (.int .i64 (hearE c f x)) ∧ Lc w w' b (hearM c f x) ∧ Kd W w' := by
 obtain ⟨bf, FF, bs, ao, cap, k⟩ := h.cp
 obtain ⟨U, hI⟩ := ho.inv
 refine (hear_z f x hx hI.me2 (Cz.self k)).mono ?_
 rintro e w' ⟨rfl, FF', ao', cap', k1, k2, k3⟩
 exact ⟨rfl, lc_of k h.old (c' := hearM c f x) k1 k3⟩
theorem Lc.current (h : Lc w W b c) : Calls Tryz.prog 13 #[.pointer (some ⟨b, 0, none⟩)] W fun e w' => e = .returned (.int .i64 (now c : Int)) ∧ w' = W := by
 obtain ⟨bf, FF, bs, ao, cap, k⟩ := h.cp
 exact current_c (Cz.self k)
theorem Lc.common (h : Lc w W b c) (ho : Ho s0 c i) : Calls Tryz.prog 24 #[.pointer (some ⟨b, 0, none⟩)] W fun e w' => e = .returned (.int .i64 (Co.common c : Int)) ∧ ∃ q, w' = W.drewN q := by
 obtain ⟨bf, FF, bs, ao, cap, k⟩ := h.cp
 obtain ⟨U, hI⟩ := ho.inv
 exact common_c (Cz.self k) hI.me2
theorem Lc.settled (h : Lc w W b c) (ho : Ho s0 c i) (hi : i ≤ 1000000) : Calls Tryz.prog 20 #[.pointer (some ⟨b, 0, none⟩)] W fun e w' => e = .returned (.int .i64 ((setN c : Int) - 1)) ∧ Below W.heap.size W w' := by
 obtain ⟨bf, FF, bs, ao, cap, k⟩ := h.cp
 obtain ⟨U, hI⟩ := ho.inv
 have := ho.nw
 rw [← ho.sv]
 exact settled_c (Cz.self k) hI.me2 ho.cm (by omega) (fun q hq => by have := (ho.wr hq).2.1; omega)
theorem wl_len (c : C) : (wl c).length = c.S.length - c.first := by unfold wl; rw [fr_len, List.length_drop]
theorem Lc.kept (h : Lc w W b c) (ho : Ho s0 c i) (hi : i ≤ 1000000) : Calls Tryz.prog 25 #[.pointer (some ⟨b, 0, none⟩)] W fun e w' => e = .returned (.int .i64 ((now c : Int) + 1 - c.first)) ∧ Below W.heap.size W w' := by
 obtain ⟨bf, FF, bs, ao, cap, k⟩ := h.cp
 obtain ⟨U, hI⟩ := ho.inv
 have h1 := hI.lenS
 have h2 := hI.firstN
 have h3 := hI.few
 have := kept_z (by rw [wl_len]; omega) (Cz.self k)
 rw [wl_len, h1, show ((now c + 1 - c.first : Nat) : Int) = (now c : Int) + 1 - c.first by omega] at this
 exact this
theorem Lc.free (h : Lc w W b c) (ho : Ho s0 c i) (hi : i ≤ 1000000) (f : Int) :
 Calls Tryz.prog 18 #[.pointer (some ⟨b, 0, none⟩), .int .i64 f] W fun e w' => (∃ y, e = .returned (.int .i64 y)) ∧ Lc w w' b (freeM c f) ∧ Kd W w' := by
 obtain ⟨bf, FF, bs, ao, cap, k⟩ := h.cp
 obtain ⟨U, hI⟩ := ho.inv
 have h1 := hI.lenS
 have h2 := hI.firstN
 have h3 := hI.few
 have hn := ho.nw
 have hset : setN c ≤ now c := by unfold setN; omega
 have hF : min f (sV c.F c.me (now c) + 1) = freeTo c f := by
  rw [ho.sv]
  unfold freeTo
  split <;> omega
 have hle : freeTo c f ≤ (setN c : Int) := by unfold freeTo; split <;> omega
 refine (free_z (A := c.first) (S := c.S.drop c.first) f hI.me2 (by rw [List.length_drop]; omega) ho.cm (by omega) (fun q hq => by have := (ho.wr hq).2.1; omega) hF (by rw [List.length_drop]; omega) (by omega) (Cz.self k)).mono ?_
 rintro e w' ⟨rfl, FF', ao', cap', k1, k2, k3⟩
 refine ⟨⟨_, rfl⟩, lc_of k h.old (c' := freeM c f) (FF' := FF') (ao' := ao') (cap' := cap') ?_ k3⟩
 have e1 : (freeM c f).first = if freeTo c f < (c.first : Int) then c.first else (freeTo c f).toNat := by
  show max c.first (freeTo c f).toNat = _
  split <;> omega
 have e2 : wl (freeM c f) = if freeTo c f < (c.first : Int) then fr c.first (c.S.drop c.first) else fr (freeTo c f).toNat ((c.S.drop c.first).drop ((freeTo c f).toNat - c.first)) := by
  unfold wl
  rw [e1]
  show fr _ (c.S.drop _) = _
  split
  · rfl
  · rw [List.drop_drop, show c.first + ((freeTo c f).toNat - c.first) = (freeTo c f).toNat by omega]
 unfold CPc
 rw [e1, e2]
 exact k1
theorem Lc.step (h : Lc w W b c) (ho : Ho s0 c i) (hi : i ≤ 1000000) (htab : Tab w) :
 Calls Tryz.prog 17 #[.pointer (some ⟨b, 0, none⟩)] W fun e w' => (∃ y v, e = .returned (.tuple #[.agg #[.int .i64 y, v], .int .i64 (stepE c)])) ∧ Lc w w' b (stepM stepP c) ∧ Kd W w' := by
 obtain ⟨bf, FF, bs, ao, cap, k⟩ := h.cp
 obtain ⟨U, hI⟩ := ho.inv
 have h1 := hI.lenS
 have h2 := hI.firstN
 have h3 := hI.few
 have hn := ho.nw
 have hcom : Co.common c = Cr.cm c.F := rfl
 cases hw : (Fd.wrong (c.F (1 - c.me))).isSome with
 | true =>
  have e1 : stepE c = 11 := by unfold stepE; rw [if_pos (show (Fd.wrong (c.F (other c))).isSome = true from hw)]
  have e2 : stepM stepP c = c := by unfold stepM; rw [e1, if_neg (by decide)]
  rw [e1, e2]
  refine (step_wrong k hI.me2 hw).mono ?_
  rintro e w' ⟨rfl, hB⟩
  exact ⟨⟨_, _, rfl⟩, h.below hB, Kd.ofBelow hB⟩
 | false =>
  have hnw : ¬ (Fd.wrong (c.F (other c))).isSome = true := by rw [show (Fd.wrong (c.F (other c))).isSome = false from hw]; decide
  by_cases hwt : full c = true ∨ (c.F c.me).L.length ≤ now c
  · have e1 : stepE c = 9 := by unfold stepE; rw [if_neg hnw, if_pos hwt]
    have e2 : stepM stepP c = c := by unfold stepM; rw [e1, if_neg (by decide)]
    rw [e1, e2]
    refine (step_wait k hI.me2 hw ho.cm ho.w16 (by omega) ?_).mono ?_
    · rcases hwt with h4 | h4
      · exact .inr (by unfold full at h4; rw [hcom] at h4; simpa using h4)
      · refine .inl ?_
        unfold Fd.knB
        rw [Fd.kn_none (.inr (by omega))]
        rfl
    · rintro e w' ⟨rfl, hB⟩
      exact ⟨⟨_, _, rfl⟩, h.below hB, Kd.ofBelow hB⟩
  · have e1 : stepE c = 0 := by unfold stepE; rw [if_neg hnw, if_neg hwt]
    have e2 : stepM stepP c = play stepP c (now c) := by unfold stepM; rw [e1, if_pos rfl]
    have h5 : ¬ full c = true := fun e => hwt (.inl e)
    have h6 : now c < (c.F c.me).L.length := Nat.lt_of_not_le fun e => hwt (.inr e)
    obtain ⟨s, hs⟩ : ∃ s, c.S[now c]? = some s := ⟨_, List.getElem?_eq_getElem (by omega)⟩
    obtain ⟨q1, q2, _⟩ := ho.gd _ s hs
    have hof := (hI.ok _ hI.me2).few
    rw [hI.fst _ hI.me2] at hof
    have hkn : knB (c.F c.me) (now c : Int) = true := by
     unfold Fd.knB
     rw [Fd.kn_in (by rw [hI.fst _ hI.me2]; exact h2) h6]
     rfl
    have hfar : ¬ Cr.cm c.F + c.w ≤ now c := by unfold full at h5; rw [hcom] at h5; simpa using h5
    rw [e1, e2]
    refine (step_go k hI.me2 hw ho.cm ho.w16 hkn hfar (by rw [List.length_drop]; omega) h2 (by rw [List.getElem?_drop, show c.first + (now c - c.first) = now c by omega]; exact hs) (by omega) (by omega) q1 q2 (fun t ht => ⟨hI.ok t ht, by rw [hI.fst t ht]; exact h2⟩) (htab.below htab.lt h.old) htab.lt).mono ?_
    rintro e w' ⟨v, rfl, hev, FF', ao', cap', k1, k2, k3, _⟩
    refine ⟨⟨_, _, rfl⟩, lc_of k h.old (FF' := FF') (ao' := ao') (cap' := cap') ?_ k3⟩
    have e3 : now (play stepP c (now c)) = now c + 1 := by
     rw [play_eq hs]
     show (putAt c.S (now c + 1) _).length - 1 = now c + 1
     rw [putAt_len _ _ _ (by omega)]; omega
    unfold CPc
    rw [e3]
    rw [play_eq hs]
    unfold wl
    show CP w' _ b bf FF' bs ao' cap' c.d c.w c.me (fun t => takeM (c.F t) (now c)) (now c + 1) c.first (fr c.first ((putAt c.S (now c + 1) _).drop c.first))
    rw [drop_put (by omega) (by omega)]
    exact k1
theorem Lc.repair (h : Lc w W b c) (ho : Ho s0 c i) (hi : i ≤ 1000000) (htab : Tab w) :
 Calls Tryz.prog 16 #[.pointer (some ⟨b, 0, none⟩)] W fun e w' => (∃ v, e = .returned (.tuple #[v, .int .i64 0])) ∧ Lc w w' b (repairM stepP c) ∧ Kd W w' := by
 obtain ⟨bf, FF, bs, ao, cap, k⟩ := h.cp
 obtain ⟨U, hI⟩ := ho.inv
 have h1 := hI.lenS
 have hn := ho.nw
 refine (repair_c k hI ho.gd (by omega) (htab.below htab.lt h.old) htab.lt).mono ?_
 rintro e w' ⟨P, v, E, rfl, _, _, _, _, _, k3, FF', ao', cap', k1, _⟩
 exact ⟨⟨_, rfl⟩, lc_of k h.old k1 k3⟩
end

section
variable {s0 : St} {c : C} {i : Nat}
theorem Ho.offer (h : Ho s0 c i) {x : Int} (hx : 0 ≤ x) : Ho s0 (offerM c x) i ∧ setN c ≤ setN (offerM c x) := by
 obtain ⟨U, hI⟩ := h.inv
 obtain ⟨h1, h2⟩ := hI.offer hx
 refine ⟨⟨⟨U, h1⟩, ?_, ?_, ?_, ?_⟩, h2⟩
 · unfold offerM; split <;> exact h.gd
 · unfold offerM; split <;> exact h.d8
 · unfold offerM; split <;> exact h.w16
 · unfold offerM; split <;> exact h.nw
theorem Ho.hear (h : Ho s0 c i) {f x : Int} (hx : 0 ≤ x) : Ho s0 (hearM c f x) i ∧ setN c ≤ setN (hearM c f x) := by
 obtain ⟨U, hI⟩ := h.inv
 obtain ⟨h1, h2⟩ := hI.hear (f := f) hx
 exact ⟨⟨⟨U, h1⟩, h.gd, h.d8, h.w16, h.nw⟩, h2⟩
theorem gd_plays {c : C} (hg : Gc c c) {k : Nat} : ∀ n, k + n < c.S.length → k + n ≤ 1073741824 → Gc c (plays stepP c k n)
 | 0, _, _ => hg
 | n + 1, h1, h2 => (gd_plays hg n (by omega) (by omega)).play (by omega) (by omega)
theorem Ho.repair (h : Ho s0 c i) (hi : i ≤ 1000000) : Ho s0 (repairM stepP c) i ∧ setN c ≤ setN (repairM stepP c) ∧ Fd.wrong ((repairM stepP c).F (1 - c.me)) = none ∧ now (repairM stepP c) = now c ∧ (repairM stepP c).me = c.me ∧ (repairM stepP c).w = c.w ∧ Co.common (repairM stepP c) = Co.common c := by
 obtain ⟨U, hI⟩ := h.inv
 obtain ⟨U', h1, h2, h3, h4, h5, h6⟩ := hI.repair
 have hS := hI.lenS
 have hn := h.nw
 have hg : Gc c c := ⟨⟨rfl, rfl, rfl, rfl⟩, rfl, hI.lenT, h.gd, fun t ht => ⟨hI.ok t ht, hI.fst t ht⟩⟩
 have hgc : Gc c (repairM stepP c) := by
  unfold repairM
  cases hw : Fd.wrong (c.F (other c)) with
  | none => exact hg
  | some k =>
   have := (h.wr hw).2.1
   exact gd_plays hg _ (by omega) (by omega)
 exact ⟨⟨⟨U', h1⟩, hgc.gd, by rw [hgc.same.1]; exact h.d8, by rw [hgc.same.2.1]; exact h.w16, by rw [h4]; exact h.nw⟩, h2, h3, h4, hgc.same.2.2.1, hgc.same.2.1, h6⟩
theorem Ho.step (h : Ho s0 c i) (hi : i ≤ 1000000) : Ho s0 (stepM stepP c) (i + 1) ∧ setN c ≤ setN (stepM stepP c) := by
 obtain ⟨U, hI⟩ := h.inv
 have hS := hI.lenS
 have hn := h.nw
 obtain ⟨U', h1, h2⟩ := hI.stepM
 refine ⟨?_, h2⟩
 unfold stepM at h1 ⊢
 by_cases he : stepE c = 0
 · rw [if_pos he] at h1 ⊢
   obtain ⟨s, hs⟩ : ∃ s, c.S[now c]? = some s := ⟨_, List.getElem?_eq_getElem (by omega)⟩
   obtain ⟨_, _, _, e3⟩ := hI.step he
   refine ⟨⟨U', h1⟩, ?_, ?_, ?_, by omega⟩
   · rw [play_eq hs]; exact gd_put h.gd hs (by omega) _ _
   · rw [play_eq hs]; exact h.d8
   · rw [play_eq hs]; exact h.w16
 · rw [if_neg he]
   exact h.more (Nat.le_succ i)
theorem Ho.free (h : Ho s0 c i) (f : Int) : Ho s0 (freeM c f) i ∧ setN (freeM c f) = setN c := by
 obtain ⟨U, hI⟩ := h.inv
 obtain ⟨h1, h2⟩ := hI.free f
 exact ⟨⟨⟨U, h1⟩, h.gd, h.d8, h.w16, h.nw⟩, h2⟩
theorem ho_new {sd : Int} (hs : 0 ≤ sd ∧ sd < 4294967296) {d w me : Nat} (hd : d ≤ 8) (hw : w ≤ 16) (hm : me < 2) : Ho (Gm.beginS sd) ⟨d, w, me, fun _ => Dl d, [Gm.beginS sd], [], 0⟩ 0 :=
 ⟨⟨fun _ _ => 0, Co.inv_new stepP (Gm.beginS sd) d w me hd hm⟩, gd_new hs, hd, hw, by simp [now]⟩
end
end Go.Proofs.YtfclnhmijjlhdaaGreatDoor.Cr

namespace Go.Proofs.YtfclnhmijjlhdaaGreatDoor.Cr
open Go.RowKit Go.Proofs.YtfclnhmijjlhdaaGreatDoor.Rg Go.ChangeShapes Go.WideShapes Go.ChangeAt Go.Deep
set_option linter.unusedVariables false
set_option maxRecDepth 100000

/-- the acts that came in: of each place its three fields. -/
def Acts (w : World) (ad : Option Addr) (len : Nat) : Prop := ∀ j, j < len → ∃ (c off : Nat) (kd f x : Int), ad = some ⟨c, off, none⟩ ∧ c < w.heap.size ∧ (0 ≤ x ∧ x ≤ 255) ∧
 w.cell? ⟨c, off + j * 3, none⟩ = some (.int .i64 kd) ∧ w.cell? ⟨c, off + j * 3 + 1, none⟩ = some (.int .i64 f) ∧ w.cell? ⟨c, off + j * 3 + 2, none⟩ = some (.int .u8 x)

theorem cells_act : Tryz.prog.cellsOf 36 = 3 := by kernel_rfl
theorem cells_int : Tryz.prog.cellsOf 3 = 1 := by kernel_rfl
theorem cells_u8 : Tryz.prog.cellsOf 5 = 1 := by kernel_rfl

theorem acts_of {H : Type} {enc : TypeId × Value → H} {W : World} {spare : Nat → Bool} {held : Bool} {ao : Option Addr} {len cap : Nat} {d : DataW H} {ps : List MemPlace}
 (h : DataW.Trod enc Tryz.prog W 0 spare held 25 (.slice ao len cap) d ps) : Acts W ao len := by
 intro j hj
 obtain ⟨fuel, hf⟩ := h
 rcases open_slice Tryz.underlying25 hf with ⟨h0, _⟩ | ⟨a, len', cap', m, n, D, Pl, h0, _, hl, _, hm, _, hx⟩
 · simp [Value.cells] at h0
   omega
 · simp [Value.cells] at h0
   obtain ⟨rfl, rfl, rfl⟩ := h0
   have hlm : len ≤ m := by rw [hm]; split <;> omega
   have hs : a.spot = none := by
    obtain ⟨cs0, h10, _⟩ := hx 0 (by omega)
    rw [cells_act] at h10
    obtain ⟨_, hl0, hc0⟩ := World.cells?_some h10
    have := World.cell?_spot ((hc0 0 (by omega)).trans (List.getElem?_eq_getElem (by omega)))
    simpa [Addr.add] using this
   obtain ⟨cs, h1, h2⟩ := hx j (by omega)
   rw [cells_act] at h1
   obtain ⟨_, hlen, hcell⟩ := World.cells?_some h1
   obtain ⟨y0, y1, y2, k, _, _, g0, g1, g2⟩ := trod_struct3 Tryz.underlying36 h2
   match cs, hlen with
   | [v0, v1, v2], _ =>
    simp only [cells_int, cells_u8] at g0 g1 g2
    have e0 := hcell 0 (by omega)
    have e1 := hcell 1 (by omega)
    have e2 := hcell 2 (by omega)
    obtain ⟨c, off, spot⟩ := a
    simp only at hs
    subst hs
    rw [add_add, Addr.add_lit] at e0 e1 e2
    obtain ⟨n0, q0, _⟩ := DataW.trod_int (k := .i64) Tryz.underlying3 g0
    obtain ⟨n1, q1, _⟩ := DataW.trod_int (k := .i64) Tryz.underlying3 g1
    obtain ⟨n2, q2, _, w2⟩ := DataW.trod_int (k := .u8) Tryz.underlying5 g2
    simp at q0 q1 q2 e0 e1 e2
    subst q0 q1 q2
    exact ⟨c, off, n0, n1, n2, rfl, World.block_lt_of_cell? W _ e0, bounds_u8 w2, e0, by rw [Nat.add_assoc]; exact e1, by rw [Nat.add_assoc]; exact e2⟩

theorem cells_u32 : Tryz.prog.cellsOf 22 = 1 := by kernel_rfl
theorem cells_cfg : Tryz.prog.cellsOf 24 = 4 := by kernel_rfl
/-- a config that came in. -/
theorem open_cfg {H : Type} {enc : TypeId × Value → H} {W : World} {r : Reach} {b0 : Nat} {spare : Nat → Bool} {held : Bool} {v : Value} {d : DataW H} {p : List MemPlace}
 (hv : Value.okWide Tryz.prog W r b0 24 v) (h : DataW.Trod enc Tryz.prog W 0 spare held 24 v d p) : ∃ x : Int × Int × Int × Int, v = .agg #[.int .u32 x.1, .int .i64 x.2.1, .int .i64 x.2.2.1, .int .i64 x.2.2.2] ∧ 0 ≤ x.1 ∧ x.1 < 4294967296 := by
 obtain ⟨cs, rfl, hsz⟩ := okWide_struct Tryz.underlying24 hv
 rw [cells_cfg] at hsz
 obtain ⟨fuel, hf⟩ := h
 obtain ⟨xs, n, _, _, _, hxl, hg⟩ := DataW.trod_struct Tryz.underlying24 hf
 have hl : cs.toList.length = 4 := by simpa using hsz
 have hcs : cs = cs.toList.toArray := by simp
 rw [hcs]
 simp only [Value.cells] at hg
 generalize cs.toList = l at *
 match l, hl with
 | [c0, c1, c2, c3], _ =>
  match xs, hxl with
  | [x0, x1, x2, x3], _ =>
   have g0 : DataW.trod enc Tryz.prog W 0 spare held n 22 [c0] = some x0 := by simpa [cells_int, cells_u32] using hg 0 _ rfl
   have g1 : DataW.trod enc Tryz.prog W 0 spare held n 3 [c1] = some x1 := by simpa [cells_int, cells_u32] using hg 1 _ rfl
   have g2 : DataW.trod enc Tryz.prog W 0 spare held n 3 [c2] = some x2 := by simpa [cells_int, cells_u32] using hg 2 _ rfl
   have g3 : DataW.trod enc Tryz.prog W 0 spare held n 3 [c3] = some x3 := by simpa [cells_int, cells_u32] using hg 3 _ rfl
   obtain ⟨k0, e0, _, w0⟩ := DataW.trod_int (k := .u32) Tryz.underlying22 g0
   obtain ⟨k1, e1, _, w1⟩ := DataW.trod_int (k := .i64) Tryz.underlying3 g1
   obtain ⟨k2, e2, _, w2⟩ := DataW.trod_int (k := .i64) Tryz.underlying3 g2
   obtain ⟨k3, e3, _, w3⟩ := DataW.trod_int (k := .i64) Tryz.underlying3 g3
   injection e0 with e0; injection e1 with e1; injection e2 with e2; injection e3 with e3
   subst e0 e1 e2 e3
   have hb := bounds_u32 w0
   exact ⟨(k0, k1, k2, k3), rfl, hb.1, by have := hb.2; omega⟩
end Go.Proofs.YtfclnhmijjlhdaaGreatDoor.Cr
