/- The chapter's example (layer 15, core). -/
import Derived.Test.YtfclnhmijjlhdaaGreatDoorJ25
namespace Go.Proofs.YtfclnhmijjlhdaaGreatDoor.Cr
open Go.RowKit Go.Proofs.YtfclnhmijjlhdaaGreatDoor.Rg
open Go.Proofs.YtfclnhmijjlhdaaGreatDoor.Fd (Fed takeV takeB takeM isTk putE putM trimN trimM wrongV knV knB)
open Go.Proofs.YtfclnhmijjlhdaaGreatDoor.Gm (St stC zeroS stepP Tab tyS rightS Ms beginS)
open Go.Proofs.YtfclnhmijjlhdaaGreatDoor.Ev (Ev At bt br bal bd1 bdn Evs pageI Row)
open Go.Proofs.YtfclnhmijjlhdaaGreatDoor.Co (Co now common full other setN putAt putAt_len putAt_get play)
set_option linter.unusedVariables false
set_option maxRecDepth 100000

/-- states that may be, by frames. -/
def Gd (S : List St) : Prop := ∀ (j : Nat) (s : St), S[j]? = some s → Ms 2 s ∧ s.fr = (j : Int) ∧ s.rd ≤ (j : Int)
theorem gd_put {S : List St} (h : Gd S) {j : Nat} {s : St} (hs : S[j]? = some s) (hj : j < 1073741824) (a b : Int) : Gd (putAt S (j + 1) (stepP s a b).1) := by
 obtain ⟨h1, h2, h3⟩ := h j s hs
 have hl := (List.getElem?_eq_some_iff.1 hs).1
 intro i x hx
 rw [putAt_get _ _ _ (by omega)] at hx
 by_cases e : i = j + 1
 · rw [if_pos e] at hx
   cases hx
   subst e
   refine ⟨Gm.step_ok h1 (by omega) (by omega) a b, by rw [Gm.step_fr, h2]; omega, ?_⟩
   have := (Gm.step_rd s a b).1
   omega
 · rw [if_neg e] at hx
   exact h i x hx
theorem begin_ms {seed : Int} (h : 0 ≤ seed ∧ seed < 4294967296) : Ms 2 (beginS seed) :=
 ⟨h, by show (0 : Int) ≤ 0 ∧ (0 : Int) ≤ 1073741824; decide, by show (0 : Int) ≤ 0 ∧ (0 : Int) ≤ 1073741824; decide, by show (1 : Int) ≤ 600 ∧ (600 : Int) ≤ 600; decide, Gm.fresh_ok.1.1, Gm.fresh_ok.2.1, Gm.fresh_ok.1.2.1, Gm.fresh_ok.2.2.1, Gm.fresh_ok.1.2.2.1, Gm.fresh_ok.2.2.2.1, Gm.fresh_ok.1.2.2.2, Gm.fresh_ok.2.2.2.2, Gm.zeros_ok 0 seed 0 600 Gm.fresh0 Gm.fresh1⟩
theorem gd_new {seed : Int} (h : 0 ≤ seed ∧ seed < 4294967296) : Gd [beginS seed] := by
 intro j s hs
 have : j = 0 := by have := (List.getElem?_eq_some_iff.1 hs).1; simp at this; omega
 subst this
 simp at hs
 subst hs
 exact ⟨begin_ms h, rfl, by show (0 : Int) ≤ 0; decide⟩

/-- the example: i frames were played (or 2), j inputs offered (or 2). -/
structure Aw (w W : World) (b i j : Nat) : Prop where
 ex : ∃ (bf : Nat → Nat) (FF : Nat → Nat → Prop) (bs : Nat) (ao : Option Addr) (cap : Nat) (m : Nat → FD) (S : List St), CP W w.heap.size b bf FF bs ao cap 0 2 0 m (min i 2) (0 : Nat) (fr 0 S) ∧
  (m 0).L = List.replicate (min j 2) 0 ∧ (m 0).first = 0 ∧ (m 1).L = [] ∧ (m 1).first = 0 ∧ (∀ t, t < 2 → Fd.Ok (m t)) ∧ S.length = min i 2 + 1 ∧ Gd S
 old : Below w.heap.size w W
theorem Aw.below {w W W' : World} {b i j : Nat} (h : Aw w W b i j) (g : Below W.heap.size W W') : Aw w W' b i j := by
 obtain ⟨bf, FF, bs, ao, cap, m, S, hc, r⟩ := h.ex
 exact ⟨⟨bf, FF, bs, ao, cap, m, S, hc.old g, r⟩, bt h.old g⟩
theorem wrong_nil {m : FD} (h : m.L = []) : Fd.wrong m = none := by
 rw [Fd.wrong_none]
 intro k _ h2
 rw [h] at h2
 simp at h2
theorem sv_awake {m : Nat → FD} {i : Nat} (h1 : (m 1).L = []) : sV m 0 (min i 2) = -1 := by
 unfold sV
 rw [show m (1 - 0) = m 1 from rfl, wrong_nil h1]
 simp only
 unfold cm
 rw [h1]
 simp
 omega
theorem Aw.offer {w W : World} {b i : Nat} (h : Aw w W b i i) :
 Calls Tryz.prog 14 #[.pointer (some ⟨b, 0, none⟩), .int .u8 0] W fun e w' => (∃ x y, e = .returned (.tuple #[.int .i64 x, .int .i64 y])) ∧ Aw w w' b i (i + 1) := by
 obtain ⟨bf, FF, bs, ao, cap, m, S, hc, h0, h1, h2, h3, h4, h5, h6⟩ := h.ex
 have hl : ∀ t, t < 2 → (m t).L.length ≤ 1073741825 := fun t ht => (h4 t ht).len
 refine (offer_z 0 (by decide) (by decide) (by decide) (by decide) hl (by omega) (Cz.self hc)).mono ?_
 rintro e w' ⟨rfl, FF', ao', cap', k1, k2, k3⟩
 refine ⟨⟨_, _, rfl⟩, ?_⟩
 have hcm : cm m = 0 := by unfold cm; rw [h2]; simp
 have hB : Below w.heap.size w w' := h.old.trans (k3.below h.old.size hc.gge)
 by_cases hi : i < 2
 · have hE0 : putE (m 0) ((m 0).L.length : Int) 0 = 0 := by
    unfold Fd.putE
    rw [h0, h1]
    simp only [List.length_replicate]
    rw [if_neg (by omega), if_neg (by omega), if_neg (by omega), if_neg (by omega)]
   have hE : ofE m 0 2 0 (min i 2) 0 = 0 := by
    unfold ofE
    rw [hcm, if_neg (by omega), if_neg (by rw [h0]; simp), hE0]
   have hM : ofM m 0 2 0 (min i 2) 0 = up m 0 (putM (m 0) ((m 0).L.length : Int) 0) := by unfold ofM; rw [if_pos hE]
   rw [hM, Fd.putM_yes hE0] at k1
   refine ⟨⟨bf, FF', bs, ao', cap', _, S, k1, ?_, ?_, ?_, ?_, ?_, h5, h6⟩, hB⟩
   · rw [up_same]
     show (m 0).L ++ [0] = _
     rw [h0, show min (i + 1) 2 = min i 2 + 1 by omega, List.replicate_succ']
   · rw [up_same]; exact h1
   · rw [up_other _ _ (by decide)]; exact h2
   · rw [up_other _ _ (by decide)]; exact h3
   · intro t ht
     by_cases e : t = 0
     · subst e
       rw [up_same]
       have := Fd.ok_put (h4 0 ht) (f := ((m 0).L.length : Int)) (a := 0) (by decide)
       rw [Fd.putM_yes hE0] at this
       exact this
     · rw [up_other _ _ e]; exact h4 t ht
 · have hE : ofE m 0 2 0 (min i 2) 0 = 9 := by unfold ofE; rw [hcm, if_pos (by omega)]
   have hM : ofM m 0 2 0 (min i 2) 0 = m := by unfold ofM; rw [hE, if_neg (by decide)]
   rw [hM] at k1
   exact ⟨⟨bf, FF', bs, ao', cap', m, S, k1, by rw [h0, show min (i + 1) 2 = min i 2 by omega], h1, h2, h3, h4, h5, h6⟩, hB⟩
theorem Aw.step {w W : World} {b i : Nat} (h : Aw w W b i (i + 1)) (htab : Tab w) :
 Calls Tryz.prog 17 #[.pointer (some ⟨b, 0, none⟩)] W fun e w' => (∃ f x y z, e = .returned (.tuple #[.agg #[.int .i64 f, .slice x y z], .int .i64 (if i < 2 then 0 else 9)])) ∧ Aw w w' b (i + 1) (i + 1) := by
 obtain ⟨bf, FF, bs, ao, cap, m, S, hc, h0, h1, h2, h3, h4, h5, h6⟩ := h.ex
 have hcm : cm m = 0 := by unfold cm; rw [h2]; simp
 have hw : (Fd.wrong (m (1 - 0))).isSome = false := by rw [show m (1 - 0) = m 1 from rfl, wrong_nil h2]; rfl
 have h2n : 2 ≤ w.heap.size := htab.lt
 by_cases hi : i < 2
 · have ei : min i 2 = i := by omega
   rw [ei] at hc h5
   obtain ⟨s, hs⟩ : ∃ s, S[i]? = some s := ⟨_, List.getElem?_eq_getElem (by omega)⟩
   obtain ⟨q1, q2, q3⟩ := h6 i s hs
   have hkn : knB (m 0) (i : Int) = true := by
    unfold Fd.knB
    rw [Fd.kn_in (by omega) (by rw [h0, List.length_replicate]; omega)]
    rfl
   refine (step_go hc (by decide) hw (by omega) (by decide) hkn (by omega) (by omega) (Nat.zero_le _) hs (by omega) (by omega) q1 q2 (fun t ht => ⟨h4 t ht, ?_⟩) (htab.below h2n h.old) h2n).mono ?_
   · rcases (show t = 0 ∨ t = 1 by omega) with rfl | rfl
     · rw [h1]; omega
     · rw [h3]; omega
   · rintro e w' ⟨v, rfl, hev, FF', ao', cap', k1, k2, k3, _⟩
     obtain ⟨x, y, z, ev, _⟩ := hev
     subst ev
     have hB : Below w.heap.size w w' := h.old.trans (k3.below h.old.size hc.gge)
     refine ⟨⟨_, _, _, _, by rw [if_pos hi]⟩, ⟨bf, FF', bs, ao', cap', _, _, by rw [show min (i + 1) 2 = i + 1 by omega]; exact k1, ?_, ?_, ?_, ?_, ?_, ?_, ?_⟩, hB⟩
     · rw [Fd.take_L]; exact h0
     · rw [Fd.take_first]; exact h1
     · rw [Fd.take_L]; exact h2
     · rw [Fd.take_first]; exact h3
     · intro t ht; exact Fd.ok_take (h4 t ht) _
     · rw [putAt_len _ _ _ (by omega)]; omega
     · exact gd_put h6 hs (by omega) _ _
 · have ei : min i 2 = 2 := by omega
   refine (step_wait hc (by decide) hw (by omega) (by decide) (by omega) (.inr (by omega))).mono ?_
   rintro e w' ⟨rfl, hB⟩
   refine ⟨⟨_, _, _, _, by rw [if_neg hi]⟩, ?_⟩
   have := h.below hB
   have hx := this.ex
   rw [show min (i + 1) 2 = min i 2 by omega] at hx
   exact ⟨by rw [show min (i + 1) 2 = min i 2 by omega]; exact hx, this.old⟩

theorem awake_c (w : World) (htab : Tab w) : Calls Tryz.prog 7 #[] w fun e w' => e = .returned (.bool true) ∧ Below w.heap.size w w' := by
 have hN := new_c 0 0 2 0 w (by decide)
 have HN : Hid (Calls Tryz.prog 8 #[.agg #[.int .u32 0, .int .i64 0, .int .i64 2, .int .i64 0]] w fun e w' => ∃ b, e = .returned (.tuple #[.pointer (some ⟨b, 0, none⟩), .int .i64 0]) ∧ Aw w w' b 0 0) := hid (hN.mono fun e w' ⟨b, he, ⟨bf, FF, bs, ao, cap, hc⟩, hB⟩ => ⟨b, he, ⟨⟨bf, FF, bs, ao, cap, _, _, hc, rfl, rfl, rfl, rfl, fun t ht => Fd.ok_new, rfl, gd_new (by decide)⟩, hB⟩⟩)
 clear hN
 have HT := hid htab
 clear htab
 go_enter Tryz.func7, Tryz.ntmps7
 go_upto_region 4 with (go_at_call 8; ((with_reducible refine HN.out.mono ?_); rintro e w1 ⟨b, rfl, hA⟩))
 clear HN
 have HA := hid hA
 clear hA
 go_loopg [3, 4] 5 (fun gk s3 s4 wr => ∃ i : Nat, gk + i = 5 ∧ s3 = .int .i64 ((min i 2 : Nat) : Int) ∧ s4 = .int .i64 i ∧ Aw w wr b i i)
 case atStart => exact ⟨0, rfl, rfl, rfl, HA.out⟩
 case round =>
  obtain ⟨i, hi, rfl, rfl, hI⟩ := hrel
  clear HA
  have HO := hid hI.offer
  have HI := hid hI
  clear hI
  by_cases hi5 : i < 5
  · have d1 : (i : Int) < 5 := by omega
    by_cases hi2 : i < 2
    · go_wp2_with (first
       | (go_at_call 14; ((with_reducible refine HO.out.mono ?_); rintro e w2 ⟨⟨x, y, rfl⟩, hA2⟩; have hSt := hA2.step HT.out; rw [if_pos hi2] at hSt; have HSt := hid hSt; clear hSt))
       | (go_at_call 17; ((with_reducible refine HSt.out.mono ?_); rintro e w3 ⟨⟨f, x2, y2, z2, rfl⟩, hA3⟩; have HA3 := hid hA3; clear hA3)))
      go_roundg (gk - 1)
      case measure => omega
      case rel => exact ⟨i + 1, by omega, by congr 1; omega, by go_num, HA3.out.below (bal (br w3) _)⟩
    · go_wp2_with (first
       | (go_at_call 14; ((with_reducible refine HO.out.mono ?_); rintro e w2 ⟨⟨x, y, rfl⟩, hA2⟩; have hSt := hA2.step HT.out; rw [if_neg hi2] at hSt; have HSt := hid hSt; clear hSt))
       | (go_at_call 17; ((with_reducible refine HSt.out.mono ?_); rintro e w3 ⟨⟨f, x2, y2, z2, rfl⟩, hA3⟩; have HA3 := hid hA3; clear hA3)))
      go_roundg (gk - 1)
      case measure => omega
      case rel => exact ⟨i + 1, by omega, by congr 1; omega, by go_num, HA3.out.below (bal (br w3) _)⟩
  · obtain rfl : i = 5 := by omega
    obtain ⟨bf, FF, bs, ao, cap, m, S, hc, h0, h1, h2, h3, h4, h5, h6⟩ := HI.out.ex
    have hcm : cm m = 0 := by unfold cm; rw [h2]; simp
    have HC := hid (current_c (Cz.self hc))
    have hSe := settled_c (Cz.self hc) (by decide) (by omega) (by omega) (fun k hk => by rw [show m (1 - 0) = m 1 from rfl, wrong_nil h2] at hk; cases hk)
    rw [sv_awake h2] at hSe
    have HSe := hid hSe
    have HOl := hid HI.out.old
    clear hc h0 h1 h2 h3 h4 h5 h6 hcm hSe HI HO
    go_wp2_with (first
     | (go_at_call 13; ((with_reducible refine HC.out.mono ?_); rintro e w2 ⟨rfl, rfl⟩))
     | (go_at_call 20; ((with_reducible refine HSe.out.mono ?_); rintro e w3 ⟨rfl, hB3⟩)))
    go_ret
    exact ⟨rfl, bt HOl.out hB3⟩
end Go.Proofs.YtfclnhmijjlhdaaGreatDoor.Cr
