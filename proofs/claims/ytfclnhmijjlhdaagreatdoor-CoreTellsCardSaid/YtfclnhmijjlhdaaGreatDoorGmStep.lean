/- One player (layer 12, game). -/
/- One step of the game (layer 12, game). -/
import Derived.Test.YtfclnhmijjlhdaaGreatDoorGmDrive
import Derived.Test.YtfclnhmijjlhdaaGreatDoorGmMove
import Derived.Test.YtfclnhmijjlhdaaGreatDoorGmMoveB
import Derived.Test.YtfclnhmijjlhdaaGreatDoorGmGood
import Derived.Deep.DeepCutAuto
import Derived.Deep.RegionWith
import Derived.Test.YtfclnhmijjlhdaaGreatDoorGmFly
namespace Go.Proofs.YtfclnhmijjlhdaaGreatDoor.Gm
open Go.RowKit Go.Proofs.YtfclnhmijjlhdaaGreatDoor.Fx Go.Proofs.YtfclnhmijjlhdaaGreatDoor.Tg Go.Proofs.YtfclnhmijjlhdaaGreatDoor.Dc
open Go.Proofs.YtfclnhmijjlhdaaGreatDoor.Ev (Ev Ky addR pageI At ecs Pg Evs)
open Go.Proofs.YtfclnhmijjlhdaaGreatDoor.Sh (In32 vec box insideB touchB slI mvP mvV wallI)
set_option linter.unusedVariables false

set_option maxRecDepth 100000 in
set_option maxHeartbeats 2000000 in
theorem play0_c {w : World} {n b pb : Nat} {s : St} {l : List Ev} (a : Int) (h : Gs w n b pb s l) (ha : 0 ≤ a ∧ a ≤ 63) (hp : Mp s.p0) (hdi : 0 ≤ s.di ∧ s.di < 4294967296) (hf : 0 ≤ s.fr) (hbs : ∀ k, k < 6 → Mb (shS s k)) :
 Calls Tryz.prog 62 #[.pointer (some ⟨b, 0, none⟩), .int .i64 0, .int .u8 a] w fun e w' => e = .returned (.tuple #[]) ∧ Gk w w' n b pb (playP 0 a (s, l)).1 (playP 0 a (s, l)).2 := by
 have HK := hid h.gk
 obtain ⟨q4, q5, q6, q7, q8, q9, q10, q11, q12, q13⟩ := h.p0
 have f0 := h.frozen
 by_cases c : 0 < s.p0.dn
 · have HS : Hid (playP 0 a (s, l) = restP 0 (s, l)) := hid (by unfold playP; rw [if_pos (by exact c)])
   have HC := rest0_c h ⟨by have := hp.dn; omega, hp.dn.2⟩ hdi
   go_enter Tryz.func62, Tryz.ntmps62
   go_wp2_with (go_at_call 101; ((with_reducible refine HC.mono ?_); rintro e w2 ⟨rfl, g2⟩; have HK2 := hid g2))
   refine bodyPost_ret (results_none rfl _ _ _) rfl ?_
   exact ⟨rfl, by rw [HS.out]; exact HK2.out⟩
 · have HS : Hid (playP 0 a (s, l) = upP 0 a (s, l)) := hid (by unfold playP; rw [if_neg (by exact c)])
   have HU : Hid (upP 0 a (s, l) = fireP 0 a ({ s with p0 := (moveP s.fr 1 (driveP s.fr 1 a (coolP a s.p0, l))).1 }, (moveP s.fr 1 (driveP s.fr 1 a (coolP a s.p0, l))).2)) := hid rfl
   have HMc := hp.cool a
   obtain ⟨_, _, _, _, b16, _⟩ := bits_of ha
   have HB16 := hid b16
   clear b16
   go_enter Tryz.func62, Tryz.ntmps62
   go_upto_region 6 with (first
    | (go_at_call 102; ((with_reducible refine (oneless_c _ ⟨hp.co.1, by have := hp.co.2; omega⟩ _).mono ?_); rintro e w' ⟨rfl, rfl⟩))
    | (go_at_call 102; ((with_reducible refine (oneless_c _ ⟨hp.wi.1, by have := hp.wi.2; omega⟩ _).mono ?_); rintro e w' ⟨rfl, rfl⟩))
    | (go_at_call 103; ((with_reducible refine (turned_c _ _ hp.fa ha _).mono ?_); rintro e w' ⟨rfl, rfl⟩)))
   have HK1 : Hid (Gk w (((w.setCell ⟨b, 10, none⟩ (.int .i64 (coolI s.p0.co))).setCell ⟨b, 11, none⟩ (.int .i64 (coolI s.p0.wi))).setCell ⟨b, 8, none⟩ (.int .i64 (turnI s.p0.fa a))) n b pb { s with p0 := coolP a s.p0 } l) := hid (((HK.out.set (j := 10) (s' := { s with p0 := { s.p0 with co := coolI s.p0.co } }) rfl (by decide) rfl).set (j := 11) (s' := { s with p0 := { s.p0 with co := coolI s.p0.co, wi := coolI s.p0.wi } }) rfl (by decide) rfl).set rfl (by decide) rfl)
   generalize World.setCell (World.setCell (World.setCell w _ _) _ _) _ _ = w1 at HK1 ⊢
   generalize coolP a s.p0 = P1 at HK1 HU HMc
   clear q4 q5 q6 q7 q8 q9 q10 q11 q12 q13 f0 HK
   have HD := hid (drive0_c a HK1.out.gs ha HMc.ax ⟨HMc.vx, HMc.vy⟩ HMc.wi hf)
   have HMd := HMc.drive s.fr 1 a (r := (P1, l))
   go_upto_region 7 with (go_at_call 104; ((refine HD.out.mono ?_); rintro e w2 ⟨rfl, g2⟩; have HK2 := hid (HK1.out.step g2); clear g2))
   clear HD HK1
   try dsimp only at HK2
   generalize driveP s.fr 1 a (P1, l) = R2 at HK2 HU HMd
   obtain ⟨P2, l2⟩ := R2
   try dsimp only at HK2 HU HMd
   have HV := hid (move0_c HK2.out.gs HMd)
   have HMm := HMd.move s.fr 1 (r := (P2, l2))
   go_upto_region 8 with (go_at_call 105; ((refine HV.out.mono ?_); rintro e w3 ⟨rfl, g3⟩; have HK3 := hid (HK2.out.step g3); clear g3))
   clear HV HK2
   try dsimp only at HK3
   generalize moveP s.fr 1 (P2, l2) = R3 at HK3 HU HMm
   obtain ⟨P3, l3⟩ := R3
   try dsimp only at HK3 HU HMm
   have b16 := HB16.out
   obtain ⟨q4, q5, q6, q7, q8, q9, q10, q11, q12, q13⟩ := HK3.out.gs.p0
   dsimp only at q4 q5 q6 q7 q8 q9 q10 q11 q12 q13
   have e5 : a / 16 % 2 = 0 ∨ (a / 16 % 2 = 1 ∧ P3.co = 0) ∨ (a / 16 % 2 = 1 ∧ ¬ P3.co = 0) := by omega
   rcases e5 with e5 | ⟨e5, e6⟩ | ⟨e5, e6⟩
   · have hb : (16 * (a / 16 % 2) != 0) = false := by rw [e5]; rfl
     have HR : Hid (fireP 0 a ({ s with p0 := P3 }, l3) = ({ s with p0 := P3 }, l3)) := hid (by simp [fireP, e5])
     go_wp2_with fail
     go_end0
     exact ⟨rfl, by rw [HS.out, HU.out, HR.out]; exact HK3.out⟩
   · have hb : (16 * (a / 16 % 2) != 0) = true := by rw [e5]; rfl
     have HR : Hid (fireP 0 a ({ s with p0 := P3 }, l3) = fireQ 0 ({ s with p0 := P3 }, l3)) := hid (by unfold fireP; rw [if_pos ⟨e5, e6⟩])
     have hok : ∀ k, k < 6 → shS { s with p0 := P3 } k = zeroB ∨ 1 ≤ (shS { s with p0 := P3 } k).ow := by
      intro k hk
      have hsh : shS { s with p0 := P3 } k = shS s k := by
       have hh : k = 0 ∨ k = 1 ∨ k = 2 ∨ k = 3 ∨ k = 4 ∨ k = 5 := by omega
       rcases hh with rfl | rfl | rfl | rfl | rfl | rfl <;> rfl
      rw [hsh]
      rcases (hbs k hk).ok with e | e
      · exact .inl e
      · exact .inr e.1.1
     have HC := hid (fire0_c HK3.out.gs HMm.ax (in32_of HMm.ay) hok)
     clear hok
     go_wp2_with (go_at_call 106; ((refine HC.out.mono ?_); rintro e w4 ⟨rfl, g4⟩; have HK4 := hid (HK3.out.step g4)))
     go_end0
     exact ⟨rfl, by rw [HS.out, HU.out, HR.out]; exact HK4.out⟩
   · have hb : (16 * (a / 16 % 2) != 0) = true := by rw [e5]; rfl
     have hb2 : (P3.co == 0) = false := by simp [e6]
     have HR : Hid (fireP 0 a ({ s with p0 := P3 }, l3) = ({ s with p0 := P3 }, l3)) := hid (by unfold fireP; rw [if_neg (fun hh => e6 hh.2)])
     go_wp2_with fail
     go_end0
     exact ⟨rfl, by rw [HS.out, HU.out, HR.out]; exact HK3.out⟩

set_option maxRecDepth 100000 in
set_option maxHeartbeats 2000000 in
theorem play1_c {w : World} {n b pb : Nat} {s : St} {l : List Ev} (a : Int) (h : Gs w n b pb s l) (ha : 0 ≤ a ∧ a ≤ 63) (hp : Mp s.p1) (hdi : 0 ≤ s.di ∧ s.di < 4294967296) (hf : 0 ≤ s.fr) (hbs : ∀ k, k < 6 → Mb (shS s k)) :
 Calls Tryz.prog 62 #[.pointer (some ⟨b, 0, none⟩), .int .i64 1, .int .u8 a] w fun e w' => e = .returned (.tuple #[]) ∧ Gk w w' n b pb (playP 1 a (s, l)).1 (playP 1 a (s, l)).2 := by
 have HK := hid h.gk
 obtain ⟨q4, q5, q6, q7, q8, q9, q10, q11, q12, q13⟩ := h.p1
 have f0 := h.frozen
 by_cases c : 0 < s.p1.dn
 · have HS : Hid (playP 1 a (s, l) = restP 1 (s, l)) := hid (by unfold playP; rw [if_pos (by exact c)])
   have HC := rest1_c h ⟨by have := hp.dn; omega, hp.dn.2⟩ hdi
   go_enter Tryz.func62, Tryz.ntmps62
   go_wp2_with (go_at_call 101; ((with_reducible refine HC.mono ?_); rintro e w2 ⟨rfl, g2⟩; have HK2 := hid g2))
   refine bodyPost_ret (results_none rfl _ _ _) rfl ?_
   exact ⟨rfl, by rw [HS.out]; exact HK2.out⟩
 · have HS : Hid (playP 1 a (s, l) = upP 1 a (s, l)) := hid (by unfold playP; rw [if_neg (by exact c)])
   have HU : Hid (upP 1 a (s, l) = fireP 1 a ({ s with p1 := (moveP s.fr 2 (driveP s.fr 2 a (coolP a s.p1, l))).1 }, (moveP s.fr 2 (driveP s.fr 2 a (coolP a s.p1, l))).2)) := hid rfl
   have HMc := hp.cool a
   obtain ⟨_, _, _, _, b16, _⟩ := bits_of ha
   have HB16 := hid b16
   clear b16
   go_enter Tryz.func62, Tryz.ntmps62
   go_upto_region 6 with (first
    | (go_at_call 102; ((with_reducible refine (oneless_c _ ⟨hp.co.1, by have := hp.co.2; omega⟩ _).mono ?_); rintro e w' ⟨rfl, rfl⟩))
    | (go_at_call 102; ((with_reducible refine (oneless_c _ ⟨hp.wi.1, by have := hp.wi.2; omega⟩ _).mono ?_); rintro e w' ⟨rfl, rfl⟩))
    | (go_at_call 103; ((with_reducible refine (turned_c _ _ hp.fa ha _).mono ?_); rintro e w' ⟨rfl, rfl⟩)))
   have HK1 : Hid (Gk w (((w.setCell ⟨b, 20, none⟩ (.int .i64 (coolI s.p1.co))).setCell ⟨b, 21, none⟩ (.int .i64 (coolI s.p1.wi))).setCell ⟨b, 18, none⟩ (.int .i64 (turnI s.p1.fa a))) n b pb { s with p1 := coolP a s.p1 } l) := hid (((HK.out.set (j := 20) (s' := { s with p1 := { s.p1 with co := coolI s.p1.co } }) rfl (by decide) rfl).set (j := 21) (s' := { s with p1 := { s.p1 with co := coolI s.p1.co, wi := coolI s.p1.wi } }) rfl (by decide) rfl).set rfl (by decide) rfl)
   generalize World.setCell (World.setCell (World.setCell w _ _) _ _) _ _ = w1 at HK1 ⊢
   generalize coolP a s.p1 = P1 at HK1 HU HMc
   clear q4 q5 q6 q7 q8 q9 q10 q11 q12 q13 f0 HK
   have HD := hid (drive1_c a HK1.out.gs ha HMc.ax ⟨HMc.vx, HMc.vy⟩ HMc.wi hf)
   have HMd := HMc.drive s.fr 2 a (r := (P1, l))
   go_upto_region 7 with (go_at_call 104; ((refine HD.out.mono ?_); rintro e w2 ⟨rfl, g2⟩; have HK2 := hid (HK1.out.step g2); clear g2))
   clear HD HK1
   try dsimp only at HK2
   generalize driveP s.fr 2 a (P1, l) = R2 at HK2 HU HMd
   obtain ⟨P2, l2⟩ := R2
   try dsimp only at HK2 HU HMd
   have HV := hid (move1_c HK2.out.gs HMd)
   have HMm := HMd.move s.fr 2 (r := (P2, l2))
   go_upto_region 8 with (go_at_call 105; ((refine HV.out.mono ?_); rintro e w3 ⟨rfl, g3⟩; have HK3 := hid (HK2.out.step g3); clear g3))
   clear HV HK2
   try dsimp only at HK3
   generalize moveP s.fr 2 (P2, l2) = R3 at HK3 HU HMm
   obtain ⟨P3, l3⟩ := R3
   try dsimp only at HK3 HU HMm
   have b16 := HB16.out
   obtain ⟨q4, q5, q6, q7, q8, q9, q10, q11, q12, q13⟩ := HK3.out.gs.p1
   dsimp only at q4 q5 q6 q7 q8 q9 q10 q11 q12 q13
   have e5 : a / 16 % 2 = 0 ∨ (a / 16 % 2 = 1 ∧ P3.co = 0) ∨ (a / 16 % 2 = 1 ∧ ¬ P3.co = 0) := by omega
   rcases e5 with e5 | ⟨e5, e6⟩ | ⟨e5, e6⟩
   · have hb : (16 * (a / 16 % 2) != 0) = false := by rw [e5]; rfl
     have HR : Hid (fireP 1 a ({ s with p1 := P3 }, l3) = ({ s with p1 := P3 }, l3)) := hid (by simp [fireP, e5])
     go_wp2_with fail
     go_end0
     exact ⟨rfl, by rw [HS.out, HU.out, HR.out]; exact HK3.out⟩
   · have hb : (16 * (a / 16 % 2) != 0) = true := by rw [e5]; rfl
     have HR : Hid (fireP 1 a ({ s with p1 := P3 }, l3) = fireQ 1 ({ s with p1 := P3 }, l3)) := hid (by unfold fireP; rw [if_pos ⟨e5, e6⟩])
     have hok : ∀ k, k < 6 → shS { s with p1 := P3 } k = zeroB ∨ 1 ≤ (shS { s with p1 := P3 } k).ow := by
      intro k hk
      have hsh : shS { s with p1 := P3 } k = shS s k := by
       have hh : k = 0 ∨ k = 1 ∨ k = 2 ∨ k = 3 ∨ k = 4 ∨ k = 5 := by omega
       rcases hh with rfl | rfl | rfl | rfl | rfl | rfl <;> rfl
      rw [hsh]
      rcases (hbs k hk).ok with e | e
      · exact .inl e
      · exact .inr e.1.1
     have HC := hid (fire1_c HK3.out.gs HMm.ax (in32_of HMm.ay) hok)
     clear hok
     go_wp2_with (go_at_call 106; ((refine HC.out.mono ?_); rintro e w4 ⟨rfl, g4⟩; have HK4 := hid (HK3.out.step g4)))
     go_end0
     exact ⟨rfl, by rw [HS.out, HU.out, HR.out]; exact HK4.out⟩
   · have hb : (16 * (a / 16 % 2) != 0) = true := by rw [e5]; rfl
     have hb2 : (P3.co == 0) = false := by simp [e6]
     have HR : Hid (fireP 1 a ({ s with p1 := P3 }, l3) = ({ s with p1 := P3 }, l3)) := hid (by unfold fireP; rw [if_neg (fun hh => e6 hh.2)])
     go_wp2_with fail
     go_end0
     exact ⟨rfl, by rw [HS.out, HU.out, HR.out]; exact HK3.out⟩

end Go.Proofs.YtfclnhmijjlhdaaGreatDoor.Gm

namespace Go.Proofs.YtfclnhmijjlhdaaGreatDoor.Gm
open Go.RowKit Go.Proofs.YtfclnhmijjlhdaaGreatDoor.Fx Go.Proofs.YtfclnhmijjlhdaaGreatDoor.Tg Go.Proofs.YtfclnhmijjlhdaaGreatDoor.Dc
open Go.Proofs.YtfclnhmijjlhdaaGreatDoor.Ev (Ev Ky addR pageI At ecs Pg Evs)
open Go.Proofs.YtfclnhmijjlhdaaGreatDoor.Sh (In32 vec box insideB touchB slI mvP mvV wallI)
set_option linter.unusedVariables false

/-- the memory of a step: the state and the inputs that came in, and the answer's own. -/
structure Sm (w W : World) (s z : St) (a b : Int) : Prop where
 st : At W w.heap.size (stC s).toArray 65
 inp : At W (w.heap.size + 1) #[.int .u8 a, .int .u8 b] 69
 res : At W (w.heap.size + 1 + 1) (stC z).toArray 65
 old : Below w.heap.size w W
theorem Sm.below {w W W' : World} {s z : St} {a b : Int} (h : Sm w W s z a b) (g : Below W.heap.size W W') : Sm w W' s z a b := ⟨h.st.below g, h.inp.below g, h.res.below g, Ev.bt h.old g⟩
theorem sm_new (w : World) (s : St) (a b : Int) : Sm w (((w.alloc (.cells (stC s).toArray 65)).alloc (.cells #[.int .u8 a, .int .u8 b] 69)).alloc (.cells (stC zeroS).toArray 65)) s zeroS a b :=
 ⟨((At.new w _ _).more _).more _, (At.newAt _ _ _ (by simp)).more _, At.newAt _ _ _ (by simp), Ev.bal (Ev.bal (Ev.bal (Ev.br w) _) _) _⟩

/-- both players' parts, so many of them. -/
def plQ (s : St) (a b : Int) : Nat → Q
 | 0 => (s, [])
 | 1 => playP 0 a (s, [])
 | _ => playP 1 b (playP 0 a (s, []))
theorem Sm.gk {w w3 W : World} {s z s' : St} {a b : Int} {bs pb : Nat} {l : List Ev} (h : Sm w w3 s z a b) (g : Gk w3 W w.heap.size bs pb s' l) : Sm w W s z a b :=
 ⟨g.at h.st (by decide) (by decide) (by decide), g.at h.inp (by decide) (by decide) (by decide), g.at h.res (by decide) (by decide) (by decide), h.old.trans g.kt.old⟩

/-- the frame is counted up, behind all else. -/
theorem Gs.last {w : World} {n b pb : Nat} {s : St} {l : List Ev} (h : Gs w n b pb s l) (f : Int) :
 At (w.setCell ⟨b, 0, none⟩ (.int .i64 f)) b (stC { s with fr := f } ++ [Value.pointer (some ⟨pb, 0, none⟩)]).toArray 113 ∧ ∃ ao cap, Ev.Pg (w.setCell ⟨b, 0, none⟩ (.int .i64 f)) n pb s.fr ao cap l := by
 obtain ⟨ao, cap, hp⟩ := h.pg
 have hne : pb ≠ b := by
  intro e
  subst e
  have := hp.block.symm.trans h.blk
  simp at this
 have hk : Rg.Keeps (fun k => k = b) w (w.setCell ⟨b, 0, none⟩ (.int .i64 f)) := (Rg.Keeps.refl (fun k => k = b) w).setCell (p := ⟨b, 0, none⟩) (fun _ => rfl) _
 have hfoot : ∀ i, Rg.Foot pb ao i → ¬ i = b := by
  rintro i (rfl | ⟨a, ha, rfl⟩) e
  · exact hne e
  · rcases hp.form with ⟨h1, _⟩ | ⟨g, cur, h1, _, hg, _⟩
    · rw [h1] at ha; cases ha
    · rw [h1] at ha
      cases ha
      simp only at e
      subst e
      have := hg.symm.trans h.blk
      simp at this
 exact ⟨at_set h.blk 0 _, ao, cap, hp.keeps hk hfoot⟩
theorem evs_row {w : World} {v : Value} {l : List Ev} (h : Evs w v l) {g : Nat} (hn : ∀ k, v.ownBlock = some k → k ≠ g) (cs : Array Value) : Evs (w.setRow g cs) v l := by
 obtain ⟨a, L, cap, rfl, h1, h2, h3, h4⟩ := h
 refine ⟨a, L, cap, rfl, h1, h2, h3, fun hp => ?_⟩
 obtain ⟨c, o, rfl, hc, hr⟩ := h4 hp
 have hcg : c ≠ g := hn c rfl
 refine ⟨c, o, rfl, by simpa [World.setRow] using hc, fun j hj i u hu => ?_⟩
 have := hr j hj i u hu
 rw [← this]
 unfold World.cell? World.setRow
 simp only [Array.getElem?_modify]
 rw [if_neg (by omega)]
/-- what List answers lies in a new block. -/
theorem list_n (w : World) {n₀ b : Nat} {fr : Int} {ao : Option Addr} {cap : Nat} {l : List Ev} (h : Ev.Pg w n₀ b fr ao cap l) (hl : l.length ≤ 4096) :
 Calls Tryz.prog 66 #[.pointer (some ⟨b, 0, none⟩)] w fun e w' => ∃ v, e = .returned v ∧ Evs w' v l ∧ Below w.heap.size w w' ∧ ∀ k, v.ownBlock = some k → w.heap.size ≤ k := by
 obtain ⟨p0, p1⟩ := h.at.two
 have HC := hid (Ev.clone_c _ l w h.sl hl)
 clear h
 go_enter Tryz.func66, Tryz.ntmps66
 go_wp2_with (go_at_call 113; ((with_reducible refine HC.out.mono ?_); rintro e w' ⟨v, rfl, ho, hb⟩))
 go_ret
 exact ⟨_, rfl, Ev.owns_sl (enc := ecs) (k := 9) (fun _ => rfl) ho, hb, fun k e => (ho.lt k e).1⟩
theorem stC_in (s : St) (pb : Nat) : ∀ j v, (stC s)[j]? = some v → ((stC s ++ [Value.pointer (some ⟨pb, 0, none⟩)]).toArray)[0 + j]? = some v := by
 intro j v h
 rw [Nat.zero_add, List.getElem?_toArray, List.getElem?_append_left]
 · exact h
 · exact (List.getElem?_eq_some_iff.1 h).1
theorem bd1m {m : Nat} {w W : World} (h : Below m w W) : Below m w W.drew := ⟨h.os, h.tape, h.output, h.size, h.block⟩
theorem exec_load_at {P : Program} {o : Oper} {ev : Operand → Value} (w : World) (ty : TypeId) (x : Operand) (ho : o.op = .load ty x)
 (g k : Nat) (hx : ev x = .pointer (some ⟨g, k, none⟩)) (t : TypeId) (cs : Array Value) (vs : List Value) (fr : Nat × Nat) (d : TypeDesc) (hg : w.heap[g]? = some (.cells cs t fr))
 (hu : P.underlying ty = some d) (hd : (match d with | .struct _ | .array _ _ => true | _ => false) = true) (hi : (P.info? ty).map (·.size) = some vs.length) (hv : ∀ j v, vs[j]? = some v → cs[k + j]? = some v) :
 (execOp ev o).run P w = .ok (.value (.agg vs.toArray)) w := by
 unfold execOp
 simp only [ho, hx, Instr.loadAt, Instr.sureAddr, Sem.run_bind, Sem.run_pure, Result.andThen_ok, run_loadVar_at w g k t ty cs vs fr d hg hu hd hi hv]

set_option maxRecDepth 100000 in
set_option maxHeartbeats 2000000 in
theorem step_c (s : St) (a b : Int) (w : World) (htab : Tab w) (hty : tyS s) (hr : rightS s = true) (ha : 0 ≤ a ∧ a ≤ 63) (hb : 0 ≤ b ∧ b ≤ 63) (hf : s.fr < 1073741824) :
 Calls Tryz.prog 21 #[.agg (stC s).toArray, .agg #[.int .u8 a, .int .u8 b]] w fun e w' => ∃ v, e = .returned (.tuple #[.agg (stC (stepP s a b).1).toArray, v, .int .i64 0]) ∧ Evs w' v (stepP s a b).2 ∧ Below w.heap.size w w' ∧ pageI s.fr (stepP s a b).2 ∧ ∀ k, v.ownBlock = some k → w.heap.size ≤ k := by
 have HM := hid (sm_new w s a b)
 have HMs := hid (right_ms hr hty)
 have HT := hid htab
 have HQ : Hid (stepP s a b = lastP (countP (fliesP 6 (clashP (playP 1 b (playP 0 a (s, []))))))) := hid rfl
 have hfr := HMs.out.fr
 clear htab hty
 generalize hC : stC s = cs at HM
 go_enter Tryz.func21, Tryz.ntmps21
 go_upto_region 1 with fail
 generalize hw : World.alloc _ _ = w0
 have HM0 : Hid (Sm w w0 s zeroS a b) := hid (by rw [← hw, ← hC]; exact sm_new w s a b)
 clear hw HM
 subst hC
 obtain ⟨i0, i1⟩ := HM0.out.inp.two
 obtain ⟨c0, c1, c2, c3⟩ := at_st HM0.out.st
 have hfne : ¬ s.fr = 1073741824 := by omega
 have hfb : (s.fr == 1073741824) = false := by simp [hfne]
 have ha1 : ¬ 63 < a := by omega
 have hb1 : ¬ 63 < b := by omega
 go_upto_region 5 with (first
  | (refine wpList_load_at rfl 65 _ rfl w.heap.size 0 rfl 65 _ (stC s) (0, 0) _ HM0.out.st Tryz.underlying65 rfl (by kernel_rfl) (fun j v hv => by rw [Nat.zero_add, List.getElem?_toArray]; exact hv) ?_)
  | (go_at_call 60; ((with_reducible refine (right_c _ _).mono ?_); rintro e w1 ⟨rfl, g1⟩; rw [hr]; have HM1 := hid (HM0.out.below g1); obtain ⟨i0, i1⟩ := HM1.out.inp.two; obtain ⟨c0, c1, c2, c3⟩ := at_st HM1.out.st)))
 have hfi : Ev.inB s.fr 0 1073741824 = true := by unfold Ev.inB; simp; omega
 clear i0 i1 hfb hfne hr
 go_upto_region 6 with (go_at_call 61; ((with_reducible refine (Ev.open_c s.fr w.heap.size _ HM1.out.old.size hfi).mono ?_); rintro e w2 ⟨rfl, hp2, g2⟩; have HM2 := hid (HM1.out.below g2); have HP2 := hid hp2; clear hp2))
 clear c0 c1 c2 c3
 generalize w1.heap.size = pb at HP2 ⊢
 go_upto_region 7 with (first
  | (refine wpList_load_at rfl 65 _ rfl w.heap.size 0 rfl 65 _ [.int .i64 s.fr, .int .u32 s.di, .int .i64 s.rd, .int .i64 s.lf, .int .i32 s.p0.ax, .int .i32 s.p0.ay, .int .i32 s.p0.vx, .int .i32 s.p0.vy, .int .i64 s.p0.fa, .int .i64 s.p0.hp, .int .i64 s.p0.co, .int .i64 s.p0.wi, .int .i64 s.p0.dn, .int .i64 s.p0.sc, .int .i32 s.p1.ax, .int .i32 s.p1.ay, .int .i32 s.p1.vx, .int .i32 s.p1.vy, .int .i64 s.p1.fa, .int .i64 s.p1.hp, .int .i64 s.p1.co, .int .i64 s.p1.wi, .int .i64 s.p1.dn, .int .i64 s.p1.sc, .int .i32 s.s0.ax, .int .i32 s.s0.ay, .int .i32 s.s0.vx, .int .i32 s.s0.vy, .int .i64 s.s0.ow, .int .i64 s.s0.li, .int .i32 s.s1.ax, .int .i32 s.s1.ay, .int .i32 s.s1.vx, .int .i32 s.s1.vy, .int .i64 s.s1.ow, .int .i64 s.s1.li, .int .i32 s.s2.ax, .int .i32 s.s2.ay, .int .i32 s.s2.vx, .int .i32 s.s2.vy, .int .i64 s.s2.ow, .int .i64 s.s2.li, .int .i32 s.s3.ax, .int .i32 s.s3.ay, .int .i32 s.s3.vx, .int .i32 s.s3.vy, .int .i64 s.s3.ow, .int .i64 s.s3.li, .int .i32 s.s4.ax, .int .i32 s.s4.ay, .int .i32 s.s4.vx, .int .i32 s.s4.vy, .int .i64 s.s4.ow, .int .i64 s.s4.li, .int .i32 s.s5.ax, .int .i32 s.s5.ay, .int .i32 s.s5.vx, .int .i32 s.s5.vy, .int .i64 s.s5.ow, .int .i64 s.s5.li] (0, 0) _ HM2.out.st Tryz.underlying65 rfl (by kernel_rfl) (fun j v hv => by rw [Nat.zero_add, List.getElem?_toArray]; exact hv) ?_)
  | (refine wpList_store_at rfl 113 _ _ rfl w2.heap.size 0 (stC s ++ [Value.pointer (some ⟨pb, 0, none⟩)]) rfl rfl 113 _ (At.new w2 _ _) (by kernel_rfl) (by show 61 ≤ 61; decide) rfl ?_))
 generalize hW : World.setRow _ _ _ = w3
 have HB3 : Hid (Below w2.heap.size w2 w3) := hid (by rw [← hW]; exact below_row (Ev.bal (Ev.br w2) _) (Nat.le_refl _) _)
 have HG3 : Hid (Gs w3 w.heap.size w2.heap.size pb s []) := hid ⟨HT.out.below HT.out.lt (HM2.out.old.trans (HB3.out.mono HM2.out.old.size)), by rw [← hW]; exact at_row (At.new w2 _ _) _, ⟨none, 0, HP2.out.old HB3.out⟩, Ev.page_nil _, HM2.out.old.size, HT.out.lt⟩
 have HM3 := hid (HM2.out.below HB3.out)
 clear hW HB3 HP2 HM2 HM1 HM0 g1 g2
 generalize w2.heap.size = bs at HG3 ⊢
 go_wp2_with fail
 go_loopw [39] (fun i wr => ∃ k : Nat, k ≤ 2 ∧ i = .int .i64 k ∧ Gk w3 wr w.heap.size bs pb (plQ s a b k).1 (plQ s a b k).2 ∧ Ms 2 (plQ s a b k).1) (fun i _ => 2 - (intOf i).toNat)
 case atStart => exact ⟨0, by decide, rfl, HG3.out.gk, HMs.out⟩
 case round =>
  obtain ⟨k, hk, rfl, hG, hM⟩ := hrel
  have HM4 := hid (HM3.out.gk hG)
  have HG4 := hid hG
  have HM5 := hid hM
  clear hG hM
  obtain ⟨i0, i1⟩ := HM4.out.inp.two
  have hkk : k = 0 ∨ k = 1 ∨ k = 2 := by omega
  rcases hkk with rfl | rfl | rfl
  · have HC := hid (play0_c a HG4.out.gs ha HM5.out.p0 HM5.out.di HM5.out.fr.1 (fun k hk => (HM5.out.sh k hk).1))
    go_wp2_with (go_at_call 62; ((refine HC.out.mono ?_); rintro e w4 ⟨rfl, g4⟩; have HK5 := hid (HG4.out.step g4)))
    go_roundw
    case rel => exact ⟨1, by decide, by go_num, HK5.out, Ms.play (q := (s, [])) HM5.out (by decide) a⟩
    case measure => simp [intOf]
  · have HC := hid (play1_c b HG4.out.gs hb HM5.out.p1 HM5.out.di HM5.out.fr.1 (fun k hk => (HM5.out.sh k hk).1))
    go_wp2_with (go_at_call 62; ((refine HC.out.mono ?_); rintro e w4 ⟨rfl, g4⟩; have HK5 := hid (HG4.out.step g4)))
    go_roundw
    case rel => exact ⟨2, by decide, by go_num, HK5.out, HM5.out.play (by decide) b⟩
    case measure => simp [intOf]
  · clear i0 i1 HG3
    have HQ2 : Hid (stepP s a b = lastP (countP (fliesP 6 (clashP (plQ s a b 2))))) := hid rfl
    generalize plQ s a b 2 = q2 at HG4 HM5 HQ2
    obtain ⟨s2, l2⟩ := q2
    have HC := hid (clash_c HG4.out.gs (ms_ty HM5.out) ⟨HM5.out.p0.dn.1, HM5.out.p0.dn.2, HM5.out.p1.dn.1, HM5.out.p1.dn.2⟩)
    go_wp2_with (go_at_call 63; ((refine HC.out.mono ?_); rintro e w5 ⟨rfl, g5⟩; have HK5 := hid (HG4.out.step g5)))
    have HM6 := hid (Ms.clash (q := (s2, l2)) HM5.out)
    generalize clashP (s2, l2) = q3 at HK5 HM6 HQ2
    clear HC HG4 HM5 HM4 HQ
    go_loopw [49] (fun i wr2 => ∃ k : Nat, k ≤ 6 ∧ i = .int .i64 k ∧ Gk w3 wr2 w.heap.size bs pb (fliesP k q3).1 (fliesP k q3).2 ∧ Ms (2 + (k : Int)) (fliesP k q3).1) (fun i _ => 6 - (intOf i).toNat)
    case atStart => exact ⟨0, by decide, rfl, HK5.out, HM6.out.more (by decide)⟩
    case round =>
     obtain ⟨k, hk, rfl, hG, hM⟩ := hrel
     have HG6 := hid hG
     have HM7 := hid hM
     clear hG hM
     by_cases hlt : k < 6
     · have hk1 : (k : Int) < 6 := by omega
       have hk0 : (0 : Int) ≤ (k : Int) := by omega
       have HC := hid (fly_c k hlt HG6.out.gs (HM7.out.sh k hlt).1 HM7.out.p0 HM7.out.p1)
       have HM8 := hid (HM7.out.fly (by omega) hlt)
       rw [show 2 + (k : Int) + 1 = 2 + ((k + 1 : Nat) : Int) by omega] at HM8
       go_wp2_with (go_at_call 64; ((refine HC.out.mono ?_); rintro e w6 ⟨rfl, g6⟩; have HK6 := hid (HG6.out.step g6)))
       go_roundw
       case rel => exact ⟨k + 1, by omega, by go_num, HK6.out, HM8.out⟩
       case measure => simp [intOf]; omega
     · have hk6 : k = 6 := by omega
       subst hk6
       have HC := hid (count_c HG6.out.gs HM7.out.lf HM7.out.rd)
       go_upto_region 19 with (go_at_call 65; ((refine HC.out.mono ?_); rintro e w7 ⟨rfl, g7⟩; have HK7 := hid (HG6.out.step g7)))
       have HSm := hid (HM3.out.gk HK7.out)
       clear HM3 HC HG6 HM7
       have HQ3 : Hid (stepP s a b = lastP (countP (fliesP 6 q3))) := HQ2
       clear HQ2
       generalize hq5 : countP ((fliesP 6 q3).1, (fliesP 6 q3).2) = q5 at HK7
       have HQ5 : Hid (stepP s a b = lastP q5) := hid (by rw [← hq5]; exact HQ3.out)
       clear HQ3 hq5
       obtain ⟨s5, l5⟩ := q5
       have HQ6 : Hid ((stepP s a b).1 = (lastP (s5, l5)).1 ∧ (stepP s a b).2 = l5) := hid ⟨by rw [HQ5.out], by rw [HQ5.out]; rfl⟩
       have hfr5 : s5.fr = s.fr := by
        have e1 := step_fr s a b
        rw [HQ6.out.1] at e1
        have e2 : (lastP (s5, l5)).1.fr = s5.fr + 1 := rfl
        omega
       have hf5 : 0 ≤ s5.fr ∧ s5.fr < 1073741824 := by rw [hfr5]; exact ⟨hfr.1, hf⟩
       have HF5 := hid hfr5
       clear hfr5
       obtain ⟨z0, z1, z2, z3, z4⟩ := HK7.out.gs.hd
       have zf := HK7.out.gs.frozen 0
       dsimp only at z0
       go_upto_region 20 with fail
       obtain ⟨HL1, ao, cap, HL2⟩ := HK7.out.gs.last (s5.fr + 1)
       have HA8 : Hid (At (w7.setCell ⟨bs, 0, none⟩ (.int .i64 (s5.fr + 1))) bs (stC (lastP (s5, l5)).1 ++ [Value.pointer (some ⟨pb, 0, none⟩)]).toArray 113) := hid HL1
       have HP8 := hid HL2
       have HNE := hid (HK7.out.gs.ne HSm.out.res (by decide))
       have HR8 := hid (HSm.out.res.far (j := 0) HNE.out (.int .i64 (s5.fr + 1)))
       have HB8 := hid (HSm.out.old.setCell (p := ⟨bs, 0, none⟩) HK7.out.gs.ge (.int .i64 (s5.fr + 1)))
       have HI : Hid (pageI s.fr l5) := hid (by rw [← HF5.out]; exact HK7.out.gs.inv)
       clear HQ5 HF5 hf5
       clear HL1 HL2 z0 z1 z2 z3 z4 zf
       generalize World.setCell w7 _ _ = w8 at HA8 HP8 HR8 HB8 ⊢
       clear HK7 HSm
       generalize (lastP (s5, l5)).1 = s6 at HA8 HQ6
       have hl5 : l5.length ≤ 4096 := Nat.le_trans HI.out.2.2.1 (by decide)
       refine wp_region_noPanic ?_
       refine wp_region_held_drew (S := (fun W => At W bs (stC s6 ++ [Value.pointer (some ⟨pb, 0, none⟩)]).toArray 113)) (by kernel_rfl) HA8.out.drew (fun hHeld => ?_)
       have HA9 := hid HA8.out.drew
       have HR9 := hid HR8.out.drew
       have HB9 := hid (bd1m HB8.out)
       have HP9 := hid (HP8.out.old (Ev.bd1 (Ev.br w8)))
       clear HA8 HP8 HR8 HB8
       generalize World.drew w8 = w9 at HA9 HR9 HB9 HP9 hHeld ⊢
       refine tkA 0 62 ?_
       simp only [pa, pu2, pu3]
       (refine tk 1 63 (.agg (stC s6).toArray) rfl rfl (by kernel_rfl) (by rfl) ?_ (by assumption) ?_)
       · intro W hSW
         exact exec_load_at W 65 _ rfl bs 0 rfl 113 _ (stC s6) (0, 0) _ hSW Tryz.underlying65 rfl (by kernel_rfl) (stC_in s6 pb)
       simp only [Act.put, pu1, pu2, pu3]
       refine tkA 2 64 ?_
       simp only [pa, pu2, pu3]
       refine onA 3 (fun K hKK => ?_)
       go_simp
       (refine (list_n _ HP9.out hl5).mono ?_)
       rintro e w10 ⟨v, rfl, hv, g10, hvn⟩
       have HVG := hid (fun k (e : v.ownBlock = some k) => Nat.le_trans HB9.out.size (hvn k e))
       have hvn : ∀ k, v.ownBlock = some k → k ≠ w.heap.size + 1 + 1 := fun k e => Nat.ne_of_gt (Nat.lt_of_lt_of_le HR9.out.lt (hvn k e))
       have HV10 := hid hv
       have HVN := hid hvn
       have HA10 := hid (HA9.out.below g10)
       have HR10 := hid (HR9.out.below g10)
       have HB10 := hid (Ev.bt HB9.out g10)
       clear hv g10 hvn
       dsimp only
       refine hKK.out _ _ HA10.out (fun hHeld => ?_)
       clear hKK K
       (try simp only [Act.put, pu1, pu2, pu3])
       refine onA 4 (fun K hKK => ?_)
       rw [if_pos (by rfl)]
       refine wp_store_at 65 _ _ rfl (w.heap.size + 1 + 1) 0 (stC s6) rfl rfl 65 _ HR10.out (by kernel_rfl) (by show 60 ≤ 60; decide) rfl ?_
       change K (Act.put _ none undef) _
       have HA11 := hid (at_row_far HA10.out (Ne.symm HNE.out) (stC s6).toArray)
       have HR11 := hid (at_row HR10.out (stC s6).toArray)
       have HB11 := hid (below_row HB10.out (show w.heap.size ≤ w.heap.size + 1 + 1 by omega) (stC s6).toArray)
       have HV11 := hid (evs_row HV10.out HVN.out (stC s6).toArray)
       refine hKK.out _ _ HA11.out (fun hHeld => ?_)
       clear hKK K
       (try simp only [Act.put])
       change wpAnyH _ _ _ _ _ _ _ _ (w10.setRow (w.heap.size + 1 + 1) (stC s6).toArray)
       change At (w10.setRow (w.heap.size + 1 + 1) (stC s6).toArray) _ _ _ at hHeld
       generalize World.setRow w10 _ _ = w11 at HA11 HR11 HB11 HV11 hHeld ⊢
       refine onA 5 (fun K hKK => ?_)
       go_simp
       refine hKK.out _ _ hHeld (fun hHeld => ?_)
       clear hKK K
       (try simp only [Act.put, pu1, pu2, pu3])
       refine onA 6 (fun K hKK => ?_)
       go_simp
       refine hKK.out _ _ hHeld (fun hHeld => ?_)
       clear hKK K
       (try simp only [Act.put, pu1, pu2, pu3])
       refine wpAnyH_done (by kernel_rfl) ?_ _
       refine NoPanic.normal ?_
       go_wp2_with fail
       refine bodyPost_ret (results_cell_tmps rfl _ _ (w.heap.size + 1 + 1) 65 (stC s6).toArray (0, 0) _ rfl HR11.out Tryz.underlying65 rfl (by kernel_rfl)) rfl ?_
       refine ⟨v, ?_, ?_, HB11.out, ?_, HVG.out⟩
       · rw [HQ6.out.1]; rfl
       · rw [HQ6.out.2]; exact HV11.out
       · rw [HQ6.out.2]; exact HI.out

end Go.Proofs.YtfclnhmijjlhdaaGreatDoor.Gm
