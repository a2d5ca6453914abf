/- Two that touch (layer 12, game). -/
/- What a hit makes (layer 12, game). -/
/- One shot that flies (layer 12, game). -/
/- The round (layer 12, game). -/
/- The state at its beginning (layer 12, game). -/
import Derived.Test.YtfclnhmijjlhdaaGreatDoorJ10
import Derived.Test.YtfclnhmijjlhdaaGreatDoorGmRight
import Derived.Deep.DeepCutAuto
import Derived.Deep.RegionWith
import Derived.Test.YtfclnhmijjlhdaaGreatDoorGmFire
import Derived.Test.YtfclnhmijjlhdaaGreatDoorGmRow
namespace Go.Proofs.YtfclnhmijjlhdaaGreatDoor.Gm
open Go.RowKit Go.Proofs.YtfclnhmijjlhdaaGreatDoor.Fx Go.Proofs.YtfclnhmijjlhdaaGreatDoor.Tg Go.Proofs.YtfclnhmijjlhdaaGreatDoor.Dc
open Go.Proofs.YtfclnhmijjlhdaaGreatDoor.Ev (Ev Ky addR pageI At ecs Pg Evs)
open Go.Proofs.YtfclnhmijjlhdaaGreatDoor.Sh (In32 vec box insideB touchB slI mvP mvV wallI)
set_option linter.unusedVariables false

set_option maxRecDepth 100000 in
set_option maxHeartbeats 2000000 in
theorem clash_c {w : World} {n b pb : Nat} {s : St} {l : List Ev} (h : Gs w n b pb s l) (hv : tyS s) (hd : 0 ≤ s.p0.dn ∧ s.p0.dn ≤ 30 ∧ 0 ≤ s.p1.dn ∧ s.p1.dn ≤ 30) :
 Calls Tryz.prog 63 #[.pointer (some ⟨b, 0, none⟩)] w fun e w' => e = .returned (.tuple #[]) ∧ Gk w w' n b pb (clashP (s, l)).1 (clashP (s, l)).2 := by
 have HK1 := hid (h.gk.below (Ev.bd1 (Ev.br w)))
 go_enter Tryz.func63, Tryz.ntmps63
 go_upto_region 0 with fail
 go_region
 generalize World.drew w = w1 at HK1 ⊢
 have hK := hid (fun W (k : Below w1.heap.size w1 W) => And.intro (HK1.out.below k).gs.p0 (HK1.out.below k).gs.p1)
 have hc : 0 < s.p0.dn ∨ (s.p0.dn = 0 ∧ 0 < s.p1.dn) ∨ (s.p0.dn = 0 ∧ s.p1.dn = 0) := by omega
 rcases hc with c | ⟨c, c'⟩ | ⟨c, c'⟩
 · have d0 : decide (0 < s.p0.dn) = true := decide_eq_true c
   have HS : Hid (clashP (s, l) = (s, l)) := hid (by simp [clashP]; omega)
   go_upto_region 1 with fail
   refine wp_region_noPanic ?_
   refine wp_region_held_drew (S := (fun W => Below w1.heap.size w1 W)) (by kernel_rfl) (by first | exact Ev.bd1 (Ev.br _) | exact Ev.bdn (Ev.br _) _ | exact Ev.br _) (fun hHeld => ?_)
   refine tkA 0 14 ?_
   simp only [pa, pu2, pu3]
   refine tkA 1 15 ?_
   simp only [pa, pu2, pu3]
   refine tkA 2 16 ?_
   simp only [pa, pu2, pu3]
   refine tkL 3 17 hK.out ?_
   simp only [pa, pu2, pu3]
   refine tkA 4 18 ?_
   simp only [pa, pu2, pu3]
   refine tkA 5 19 ?_
   simp only [pa, pu2, pu3]
   refine tkS 6 20 ?_
   simp only [pa, pu2, pu3]
   refine tkS 7 21 ?_
   simp only [pa, pu2, pu3]
   refine tkS 8 22 ?_
   simp only [pa, pu2, pu3]
   refine tkS 9 23 ?_
   simp only [pa, pu2, pu3]
   refine tkS 10 24 ?_
   simp only [pa, pu2, pu3]
   refine tkA 11 25 ?_
   simp only [pa, pu2, pu3]
   refine tkA 12 26 ?_
   simp only [pa, pu2, pu3]
   refine tkS 13 27 ?_
   simp only [pa, pu2, pu3]
   refine tkS 14 28 ?_
   simp only [pa, pu2, pu3]
   refine tkS 15 29 ?_
   simp only [pa, pu2, pu3]
   refine tkS 16 30 ?_
   simp only [pa, pu2, pu3]
   refine tkS 17 31 ?_
   simp only [pa, pu2, pu3]
   refine tkS 18 32 ?_
   simp only [pa, pu2, pu3]
   refine tkS 19 33 ?_
   simp only [pa, pu2, pu3]
   refine tkS 20 34 ?_
   simp only [pa, pu2, pu3]
   refine tkS 21 35 ?_
   simp only [pa, pu2, pu3]
   refine tkS 22 36 ?_
   simp only [pa, pu2, pu3]
   refine tkA 23 37 ?_
   simp only [pa, pu2, pu3]
   refine wpAnyH_done (by kernel_rfl) ?_ _
   refine NoPanic.normal ?_
   go_wp2_with fail
   refine bodyPost_ret (results_none rfl _ _ _) rfl ?_
   exact ⟨rfl, by rw [HS.out]; exact HK1.out.below (show Below w1.heap.size w1 _ by first | with_reducible assumption | exact Ev.bdn (Ev.br _) _ | exact Ev.bd1 (Ev.br _) | exact Ev.br _)⟩
 · have d0 : decide (0 < s.p0.dn) = false := decide_eq_false (by omega)
   have d1 : decide (0 < s.p1.dn) = true := decide_eq_true c'
   have HS : Hid (clashP (s, l) = (s, l)) := hid (by simp [clashP]; omega)
   go_upto_region 1 with fail
   refine wp_region_noPanic ?_
   refine wp_region_held_drew (S := (fun W => Below w1.heap.size w1 W)) (by kernel_rfl) (by first | exact Ev.bd1 (Ev.br _) | exact Ev.bdn (Ev.br _) _ | exact Ev.br _) (fun hHeld => ?_)
   refine tkA 0 14 ?_
   simp only [pa, pu2, pu3]
   refine tkA 1 15 ?_
   simp only [pa, pu2, pu3]
   refine tkA 2 16 ?_
   simp only [pa, pu2, pu3]
   refine tkL 3 17 hK.out ?_
   simp only [pa, pu2, pu3]
   refine tkA 4 18 ?_
   simp only [pa, pu2, pu3]
   refine tkA 5 19 ?_
   simp only [pa, pu2, pu3]
   refine tkA 6 20 ?_
   simp only [pa, pu2, pu3]
   refine tkA 7 21 ?_
   simp only [pa, pu2, pu3]
   refine tkA 8 22 ?_
   simp only [pa, pu2, pu3]
   refine tkL 9 23 hK.out ?_
   simp only [pa, pu2, pu3]
   refine tkA 10 24 ?_
   simp only [pa, pu2, pu3]
   refine tkA 11 25 ?_
   simp only [pa, pu2, pu3]
   refine tkA 12 26 ?_
   simp only [pa, pu2, pu3]
   refine tkS 13 27 ?_
   simp only [pa, pu2, pu3]
   refine tkS 14 28 ?_
   simp only [pa, pu2, pu3]
   refine tkS 15 29 ?_
   simp only [pa, pu2, pu3]
   refine tkS 16 30 ?_
   simp only [pa, pu2, pu3]
   refine tkS 17 31 ?_
   simp only [pa, pu2, pu3]
   refine tkS 18 32 ?_
   simp only [pa, pu2, pu3]
   refine tkS 19 33 ?_
   simp only [pa, pu2, pu3]
   refine tkS 20 34 ?_
   simp only [pa, pu2, pu3]
   refine tkS 21 35 ?_
   simp only [pa, pu2, pu3]
   refine tkS 22 36 ?_
   simp only [pa, pu2, pu3]
   refine tkA 23 37 ?_
   simp only [pa, pu2, pu3]
   refine wpAnyH_done (by kernel_rfl) ?_ _
   refine NoPanic.normal ?_
   go_wp2_with fail
   refine bodyPost_ret (results_none rfl _ _ _) rfl ?_
   exact ⟨rfl, by rw [HS.out]; exact HK1.out.below (show Below w1.heap.size w1 _ by first | with_reducible assumption | exact Ev.bdn (Ev.br _) _ | exact Ev.bd1 (Ev.br _) | exact Ev.br _)⟩
 · have d0 : decide (0 < s.p0.dn) = false := decide_eq_false (by omega)
   have d1 : decide (0 < s.p1.dn) = false := decide_eq_false (by omega)
   have e : ∃ T : Bool, Hid (touchB s.p0.ax s.p0.ay 262144 s.p1.ax s.p1.ay 262144 = T) := ⟨_, rfl⟩
   obtain ⟨T, hT⟩ := e
   have HC := fun W => Sh.touch_c s.p0.ax s.p0.ay 262144 s.p1.ax s.p1.ay 262144 hv.2.1.1 hv.2.1.2.1 (by decide) hv.2.2.1.1 hv.2.2.1.2.1 (by decide) W
   rw [hT.out] at HC
   have HS : Hid (clashP (s, l) = if T = true then ({ s with p0 := { s.p0 with vx := s.p1.vx, vy := s.p1.vy }, p1 := { s.p1 with vx := s.p0.vx, vy := s.p0.vy } }, tel s.fr l 0 4 0) else (s, l)) := hid (by simp [clashP, c, c', hT.out])
   clear hT
   go_upto_region 1 with fail
   refine wp_region_noPanic ?_
   refine wp_region_held_drew (S := (fun W => Below w1.heap.size w1 W)) (by kernel_rfl) (by first | exact Ev.bd1 (Ev.br _) | exact Ev.bdn (Ev.br _) _ | exact Ev.br _) (fun hHeld => ?_)
   refine tkA 0 14 ?_
   simp only [pa, pu2, pu3]
   refine tkA 1 15 ?_
   simp only [pa, pu2, pu3]
   refine tkA 2 16 ?_
   simp only [pa, pu2, pu3]
   refine tkL 3 17 hK.out ?_
   simp only [pa, pu2, pu3]
   refine tkA 4 18 ?_
   simp only [pa, pu2, pu3]
   refine tkA 5 19 ?_
   simp only [pa, pu2, pu3]
   refine tkA 6 20 ?_
   simp only [pa, pu2, pu3]
   refine tkA 7 21 ?_
   simp only [pa, pu2, pu3]
   refine tkA 8 22 ?_
   simp only [pa, pu2, pu3]
   refine tkL 9 23 hK.out ?_
   simp only [pa, pu2, pu3]
   refine tkA 10 24 ?_
   simp only [pa, pu2, pu3]
   refine tkA 11 25 ?_
   simp only [pa, pu2, pu3]
   refine tkA 12 26 ?_
   simp only [pa, pu2, pu3]
   refine tkA 13 27 ?_
   simp only [pa, pu2, pu3]
   refine tkA 14 28 ?_
   simp only [pa, pu2, pu3]
   refine tkA 15 29 ?_
   simp only [pa, pu2, pu3]
   refine tkL 16 30 hK.out ?_
   simp only [pa, pu2, pu3]
   refine tkA 17 31 ?_
   simp only [pa, pu2, pu3]
   refine tkA 18 32 ?_
   simp only [pa, pu2, pu3]
   refine tkA 19 33 ?_
   simp only [pa, pu2, pu3]
   refine tkL 20 34 hK.out ?_
   simp only [pa, pu2, pu3]
   refine onA 21 (fun K hKK => ?_)
   go_simp
   ((refine (HC _).mono ?_); rintro e y1 ⟨rfl, g1⟩; have hgy1 := Ev.bt (show Below w1.heap.size w1 _ by first | with_reducible assumption | exact Ev.bdn (Ev.br _) _ | exact Ev.bd1 (Ev.br _) | exact Ev.br _) g1)
   dsimp only
   refine hKK.out _ _ hgy1 (fun hHeld => ?_)
   clear hKK K
   (try simp only [Act.put, pu1, pu2, pu3])
   refine tkA 22 36 ?_
   simp only [pa, pu2, pu3]
   refine tkA 23 37 ?_
   simp only [pa, pu2, pu3]
   refine wpAnyH_done (by kernel_rfl) ?_ _
   refine NoPanic.normal ?_
   have HK2 := hid (HK1.out.below (show Below w1.heap.size w1 _ by first | with_reducible assumption | exact Ev.bdn (Ev.br _) _ | exact Ev.bd1 (Ev.br _) | exact Ev.br _))
   cases T
   case false =>
    go_wp2_with fail
    refine bodyPost_ret (results_none rfl _ _ _) rfl ?_
    exact ⟨rfl, by rw [HS.out]; exact HK2.out⟩
   case true =>
    obtain ⟨q4, q5, q6, q7, q8, q9, q10, q11, q12, q13⟩ := HK2.out.gs.p0
    obtain ⟨r4, r5, r6, r7, r8, r9, r10, r11, r12, r13⟩ := HK2.out.gs.p1
    have f2 := HK2.out.gs.frozen
    go_upto_region 2 with fail
    go_region
    have HK3 : Hid (Gk w ((((y1.setCell ⟨b, 6, none⟩ (.int .i32 s.p1.vx)).setCell ⟨b, 7, none⟩ (.int .i32 s.p1.vy)).setCell ⟨b, 16, none⟩ (.int .i32 s.p0.vx)).setCell ⟨b, 17, none⟩ (.int .i32 s.p0.vy)).drew n b pb { s with p0 := { s.p0 with vx := s.p1.vx, vy := s.p1.vy }, p1 := { s.p1 with vx := s.p0.vx, vy := s.p0.vy } } l) := hid (by
     refine Gk.below (w := (((y1.setCell ⟨b, 6, none⟩ (.int .i32 s.p1.vx)).setCell ⟨b, 7, none⟩ (.int .i32 s.p1.vy)).setCell ⟨b, 16, none⟩ (.int .i32 s.p0.vx)).setCell ⟨b, 17, none⟩ (.int .i32 s.p0.vy)) ?_ (Ev.bd1 (Ev.br _))
     exact (((HK2.out.set (j := 6) (s' := { s with p0 := { s.p0 with vx := s.p1.vx } }) rfl (by decide) rfl).set (j := 7) (s' := { s with p0 := { s.p0 with vx := s.p1.vx, vy := s.p1.vy } }) rfl (by decide) rfl).set (j := 16) (s' := { s with p0 := { s.p0 with vx := s.p1.vx, vy := s.p1.vy }, p1 := { s.p1 with vx := s.p0.vx } }) rfl (by decide) rfl).set rfl (by decide) rfl)
    generalize World.drew (World.setCell (World.setCell (World.setCell (World.setCell y1 _ _) _ _) _ _) _ _) = w3 at HK3 ⊢
    clear q4 q5 q6 q7 q8 q9 q10 q11 q12 q13 r4 r5 r6 r7 r8 r9 r10 r11 r12 r13 f2
    go_wp2_with (go_at_call 108; ((refine (tl0_4 HK3.out.gs).mono ?_); rintro e w4 ⟨rfl, g4⟩; have HK4 := hid (HK3.out.step g4); clear g4))
    go_end0
    exact ⟨rfl, by rw [HS.out]; exact HK4.out⟩

end Go.Proofs.YtfclnhmijjlhdaaGreatDoor.Gm

namespace Go.Proofs.YtfclnhmijjlhdaaGreatDoor.Gm
open Go.RowKit Go.Proofs.YtfclnhmijjlhdaaGreatDoor.Fx Go.Proofs.YtfclnhmijjlhdaaGreatDoor.Tg Go.Proofs.YtfclnhmijjlhdaaGreatDoor.Dc
open Go.Proofs.YtfclnhmijjlhdaaGreatDoor.Ev (Ev Ky addR pageI At ecs Pg Evs)
open Go.Proofs.YtfclnhmijjlhdaaGreatDoor.Sh (In32 vec box insideB touchB slI mvP mvV wallI)
set_option linter.unusedVariables false

set_option maxRecDepth 100000 in
set_option maxHeartbeats 4000000 in
theorem hit0_c {w : World} {n b pb : Nat} {s : St} {l : List Ev} (h : Gs w n b pb s l) (hx : -4194304 ≤ s.p0.ax ∧ s.p0.ax ≤ 4194304) (hh : 1 ≤ s.p0.hp ∧ s.p0.hp ≤ 3) (hs : 0 ≤ s.p1.sc ∧ s.p1.sc ≤ 1000) :
 Calls Tryz.prog 112 #[.pointer (some ⟨b, 0, none⟩), .int .i64 0, .int .i64 1] w fun e w' => e = .returned (.tuple #[]) ∧ Gk w w' n b pb (hitP 0 (s, l)).1 (hitP 0 (s, l)).2 := by
 have HK := hid h.gk
 have f0 := h.frozen
 have hc : s.p0.hp = 1 ∨ s.p0.hp = 2 ∨ s.p0.hp = 3 := by omega
 rcases hc with c | c
 · rw [show hitP 0 (s, l) = ({ s with p0 := { s.p0 with hp := 0, dn := 30 }, p1 := { s.p1 with sc := s.p1.sc + 1 } }, tel s.fr (tel s.fr l 1 2 s.p0.ax) 1 5 s.p0.ax) by simp [hitP, plS, setP, c]]
   have c0 : w.cell? ⟨b, 9, none⟩ = some (.int .i64 1) := h.p0.2.2.2.2.2.1.trans (by rw [c])
   go_enter Tryz.func112, Tryz.ntmps112
   go_upto_region 2 with fail
   have HK1 : Hid (Gk w (w.setCell ⟨b, 9, none⟩ (.int .i64 0)) n b pb { s with p0 := { s.p0 with hp := 0 } } l) := hid (HK.out.set rfl (by decide) rfl)
   generalize World.setCell w _ _ = w1 at HK1 ⊢
   clear f0
   go_upto_region 3 with (first
    | (go_at_call 140; ((with_reducible refine (em0 _).mono ?_); rintro e w' ⟨rfl, rfl⟩))
    | (go_at_call 108; ((with_reducible refine (tl1_2 HK1.out.gs hx).mono ?_); rintro e w2 ⟨rfl, g2⟩; have HK2 := hid (HK1.out.step g2); clear g2)))
   obtain ⟨q4, q5, q6, q7, q8, q9, q10, q11, q12, q13⟩ := HK2.out.gs.p0
   have f2 := HK2.out.gs.frozen
   go_upto_region 5 with fail
   have HK3 : Hid (Gk w (w2.setCell ⟨b, 12, none⟩ (.int .i64 30)) n b pb { s with p0 := { s.p0 with hp := 0, dn := 30 } } (tel s.fr l 1 2 s.p0.ax)) := hid (HK2.out.set rfl (by decide) rfl)
   generalize World.setCell w2 _ _ = w3 at HK3 ⊢
   clear q4 q5 q6 q7 q8 q9 q10 q11 q12 q13 f2
   obtain ⟨q4, q5, q6, q7, q8, q9, q10, q11, q12, q13⟩ := HK3.out.gs.p1
   have f3 := HK3.out.gs.frozen
   go_region
   have HK4 : Hid (Gk w (w3.setCell ⟨b, 23, none⟩ (.int .i64 (s.p1.sc + 1))).drew n b pb { s with p0 := { s.p0 with hp := 0, dn := 30 }, p1 := { s.p1 with sc := s.p1.sc + 1 } } (tel s.fr l 1 2 s.p0.ax)) := hid (by refine Gk.below (w := w3.setCell ⟨b, 23, none⟩ (.int .i64 (s.p1.sc + 1))) ?_ (Ev.bd1 (Ev.br _)); exact HK3.out.set rfl (by decide) rfl)
   generalize World.drew (World.setCell w3 _ _) = w4 at HK4 ⊢
   clear q4 q5 q6 q7 q8 q9 q10 q11 q12 q13 f3
   go_wp2_with (first
    | (go_at_call 140; ((with_reducible refine (em0 _).mono ?_); rintro e w' ⟨rfl, rfl⟩))
    | (go_at_call 108; ((with_reducible refine (tl1_5 HK4.out.gs hx).mono ?_); rintro e w5 ⟨rfl, g5⟩; have HK5 := hid (HK4.out.step g5); clear g5)))
   go_end0
   exact ⟨rfl, HK5.out⟩
 · have hne : s.p0.hp ≠ 1 := by omega
   rw [show hitP 0 (s, l) = ({ s with p0 := { s.p0 with hp := s.p0.hp - 1 } }, tel s.fr l 1 2 s.p0.ax) by simp [hitP, plS, setP, hne]]
   rcases c with c | c
   · have c0 : w.cell? ⟨b, 9, none⟩ = some (.int .i64 2) := h.p0.2.2.2.2.2.1.trans (by rw [c])
     have HE : Hid (Gk w (w.setCell ⟨b, 9, none⟩ (.int .i64 1)) n b pb { s with p0 := { s.p0 with hp := s.p0.hp - 1 } } l) := hid (by rw [show s.p0.hp - 1 = 1 by omega]; exact HK.out.set rfl (by decide) rfl)
     have HV : Hid (s.p0.hp - 1 = 1) := hid (by omega)
     clear c hne HK
     go_enter Tryz.func112, Tryz.ntmps112
     go_upto_region 2 with fail
     generalize World.setCell w _ _ = w1 at HE ⊢
     clear f0 c0
     go_upto_region 3 with (first
      | (go_at_call 140; ((with_reducible refine (em0 _).mono ?_); rintro e w' ⟨rfl, rfl⟩))
      | (go_at_call 108; ((with_reducible refine (tl1_2 HE.out.gs hx).mono ?_); rintro e w2 ⟨rfl, g2⟩; have HK2 := hid (HE.out.step g2); clear g2)))
     have c1 : w2.cell? ⟨b, 9, none⟩ = some (.int .i64 1) := HK2.out.gs.p0.2.2.2.2.2.1.trans (congrArg (fun z => some (Value.int .i64 z)) HV.out)
     clear HV
     go_wp2_with fail
     refine bodyPost_ret (results_none rfl _ _ _) rfl ?_
     exact ⟨rfl, HK2.out⟩
   · have c0 : w.cell? ⟨b, 9, none⟩ = some (.int .i64 3) := h.p0.2.2.2.2.2.1.trans (by rw [c])
     have HE : Hid (Gk w (w.setCell ⟨b, 9, none⟩ (.int .i64 2)) n b pb { s with p0 := { s.p0 with hp := s.p0.hp - 1 } } l) := hid (by rw [show s.p0.hp - 1 = 2 by omega]; exact HK.out.set rfl (by decide) rfl)
     have HV : Hid (s.p0.hp - 1 = 2) := hid (by omega)
     clear c hne HK
     go_enter Tryz.func112, Tryz.ntmps112
     go_upto_region 2 with fail
     generalize World.setCell w _ _ = w1 at HE ⊢
     clear f0 c0
     go_upto_region 3 with (first
      | (go_at_call 140; ((with_reducible refine (em0 _).mono ?_); rintro e w' ⟨rfl, rfl⟩))
      | (go_at_call 108; ((with_reducible refine (tl1_2 HE.out.gs hx).mono ?_); rintro e w2 ⟨rfl, g2⟩; have HK2 := hid (HE.out.step g2); clear g2)))
     have c1 : w2.cell? ⟨b, 9, none⟩ = some (.int .i64 2) := HK2.out.gs.p0.2.2.2.2.2.1.trans (congrArg (fun z => some (Value.int .i64 z)) HV.out)
     clear HV
     go_wp2_with fail
     refine bodyPost_ret (results_none rfl _ _ _) rfl ?_
     exact ⟨rfl, HK2.out⟩

set_option maxRecDepth 100000 in
set_option maxHeartbeats 4000000 in
theorem hit1_c {w : World} {n b pb : Nat} {s : St} {l : List Ev} (h : Gs w n b pb s l) (hx : -4194304 ≤ s.p1.ax ∧ s.p1.ax ≤ 4194304) (hh : 1 ≤ s.p1.hp ∧ s.p1.hp ≤ 3) (hs : 0 ≤ s.p0.sc ∧ s.p0.sc ≤ 1000) :
 Calls Tryz.prog 112 #[.pointer (some ⟨b, 0, none⟩), .int .i64 1, .int .i64 0] w fun e w' => e = .returned (.tuple #[]) ∧ Gk w w' n b pb (hitP 1 (s, l)).1 (hitP 1 (s, l)).2 := by
 have HK := hid h.gk
 have f0 := h.frozen
 have hc : s.p1.hp = 1 ∨ s.p1.hp = 2 ∨ s.p1.hp = 3 := by omega
 rcases hc with c | c
 · rw [show hitP 1 (s, l) = ({ s with p1 := { s.p1 with hp := 0, dn := 30 }, p0 := { s.p0 with sc := s.p0.sc + 1 } }, tel s.fr (tel s.fr l 2 2 s.p1.ax) 2 5 s.p1.ax) by simp [hitP, plS, setP, c]]
   have c0 : w.cell? ⟨b, 19, none⟩ = some (.int .i64 1) := h.p1.2.2.2.2.2.1.trans (by rw [c])
   go_enter Tryz.func112, Tryz.ntmps112
   go_upto_region 2 with fail
   have HK1 : Hid (Gk w (w.setCell ⟨b, 19, none⟩ (.int .i64 0)) n b pb { s with p1 := { s.p1 with hp := 0 } } l) := hid (HK.out.set rfl (by decide) rfl)
   generalize World.setCell w _ _ = w1 at HK1 ⊢
   clear f0
   go_upto_region 3 with (first
    | (go_at_call 140; ((with_reducible refine (em1 _).mono ?_); rintro e w' ⟨rfl, rfl⟩))
    | (go_at_call 108; ((with_reducible refine (tl2_2 HK1.out.gs hx).mono ?_); rintro e w2 ⟨rfl, g2⟩; have HK2 := hid (HK1.out.step g2); clear g2)))
   obtain ⟨q4, q5, q6, q7, q8, q9, q10, q11, q12, q13⟩ := HK2.out.gs.p1
   have f2 := HK2.out.gs.frozen
   go_upto_region 5 with fail
   have HK3 : Hid (Gk w (w2.setCell ⟨b, 22, none⟩ (.int .i64 30)) n b pb { s with p1 := { s.p1 with hp := 0, dn := 30 } } (tel s.fr l 2 2 s.p1.ax)) := hid (HK2.out.set rfl (by decide) rfl)
   generalize World.setCell w2 _ _ = w3 at HK3 ⊢
   clear q4 q5 q6 q7 q8 q9 q10 q11 q12 q13 f2
   obtain ⟨q4, q5, q6, q7, q8, q9, q10, q11, q12, q13⟩ := HK3.out.gs.p0
   have f3 := HK3.out.gs.frozen
   go_region
   have HK4 : Hid (Gk w (w3.setCell ⟨b, 13, none⟩ (.int .i64 (s.p0.sc + 1))).drew n b pb { s with p1 := { s.p1 with hp := 0, dn := 30 }, p0 := { s.p0 with sc := s.p0.sc + 1 } } (tel s.fr l 2 2 s.p1.ax)) := hid (by refine Gk.below (w := w3.setCell ⟨b, 13, none⟩ (.int .i64 (s.p0.sc + 1))) ?_ (Ev.bd1 (Ev.br _)); exact HK3.out.set rfl (by decide) rfl)
   generalize World.drew (World.setCell w3 _ _) = w4 at HK4 ⊢
   clear q4 q5 q6 q7 q8 q9 q10 q11 q12 q13 f3
   go_wp2_with (first
    | (go_at_call 140; ((with_reducible refine (em1 _).mono ?_); rintro e w' ⟨rfl, rfl⟩))
    | (go_at_call 108; ((with_reducible refine (tl2_5 HK4.out.gs hx).mono ?_); rintro e w5 ⟨rfl, g5⟩; have HK5 := hid (HK4.out.step g5); clear g5)))
   go_end0
   exact ⟨rfl, HK5.out⟩
 · have hne : s.p1.hp ≠ 1 := by omega
   rw [show hitP 1 (s, l) = ({ s with p1 := { s.p1 with hp := s.p1.hp - 1 } }, tel s.fr l 2 2 s.p1.ax) by simp [hitP, plS, setP, hne]]
   rcases c with c | c
   · have c0 : w.cell? ⟨b, 19, none⟩ = some (.int .i64 2) := h.p1.2.2.2.2.2.1.trans (by rw [c])
     have HE : Hid (Gk w (w.setCell ⟨b, 19, none⟩ (.int .i64 1)) n b pb { s with p1 := { s.p1 with hp := s.p1.hp - 1 } } l) := hid (by rw [show s.p1.hp - 1 = 1 by omega]; exact HK.out.set rfl (by decide) rfl)
     have HV : Hid (s.p1.hp - 1 = 1) := hid (by omega)
     clear c hne HK
     go_enter Tryz.func112, Tryz.ntmps112
     go_upto_region 2 with fail
     generalize World.setCell w _ _ = w1 at HE ⊢
     clear f0 c0
     go_upto_region 3 with (first
      | (go_at_call 140; ((with_reducible refine (em1 _).mono ?_); rintro e w' ⟨rfl, rfl⟩))
      | (go_at_call 108; ((with_reducible refine (tl2_2 HE.out.gs hx).mono ?_); rintro e w2 ⟨rfl, g2⟩; have HK2 := hid (HE.out.step g2); clear g2)))
     have c1 : w2.cell? ⟨b, 19, none⟩ = some (.int .i64 1) := HK2.out.gs.p1.2.2.2.2.2.1.trans (congrArg (fun z => some (Value.int .i64 z)) HV.out)
     clear HV
     go_wp2_with fail
     refine bodyPost_ret (results_none rfl _ _ _) rfl ?_
     exact ⟨rfl, HK2.out⟩
   · have c0 : w.cell? ⟨b, 19, none⟩ = some (.int .i64 3) := h.p1.2.2.2.2.2.1.trans (by rw [c])
     have HE : Hid (Gk w (w.setCell ⟨b, 19, none⟩ (.int .i64 2)) n b pb { s with p1 := { s.p1 with hp := s.p1.hp - 1 } } l) := hid (by rw [show s.p1.hp - 1 = 2 by omega]; exact HK.out.set rfl (by decide) rfl)
     have HV : Hid (s.p1.hp - 1 = 2) := hid (by omega)
     clear c hne HK
     go_enter Tryz.func112, Tryz.ntmps112
     go_upto_region 2 with fail
     generalize World.setCell w _ _ = w1 at HE ⊢
     clear f0 c0
     go_upto_region 3 with (first
      | (go_at_call 140; ((with_reducible refine (em1 _).mono ?_); rintro e w' ⟨rfl, rfl⟩))
      | (go_at_call 108; ((with_reducible refine (tl2_2 HE.out.gs hx).mono ?_); rintro e w2 ⟨rfl, g2⟩; have HK2 := hid (HE.out.step g2); clear g2)))
     have c1 : w2.cell? ⟨b, 19, none⟩ = some (.int .i64 2) := HK2.out.gs.p1.2.2.2.2.2.1.trans (congrArg (fun z => some (Value.int .i64 z)) HV.out)
     clear HV
     go_wp2_with fail
     refine bodyPost_ret (results_none rfl _ _ _) rfl ?_
     exact ⟨rfl, HK2.out⟩

end Go.Proofs.YtfclnhmijjlhdaaGreatDoor.Gm

namespace Go.Proofs.YtfclnhmijjlhdaaGreatDoor.Gm
open Go.RowKit Go.Proofs.YtfclnhmijjlhdaaGreatDoor.Fx Go.Proofs.YtfclnhmijjlhdaaGreatDoor.Tg Go.Proofs.YtfclnhmijjlhdaaGreatDoor.Dc
open Go.Proofs.YtfclnhmijjlhdaaGreatDoor.Ev (Ev Ky addR pageI At ecs Pg Evs)
open Go.Proofs.YtfclnhmijjlhdaaGreatDoor.Sh (In32 vec box insideB touchB slI mvP mvV wallI)
set_option linter.unusedVariables false

theorem sh_set {s : St} {k : Nat} (hk : k < 6) (x : Bu) : shS (setS s k x) k = x ∧ (setS s k x).p0 = s.p0 ∧ (setS s k x).p1 = s.p1 ∧ (setS s k x).fr = s.fr ∧ ∀ y, setS (setS s k x) k y = setS s k y := by
 have hh : k = 0 ∨ k = 1 ∨ k = 2 ∨ k = 3 ∨ k = 4 ∨ k = 5 := by omega
 rcases hh with rfl | rfl | rfl | rfl | rfl | rfl <;> exact ⟨rfl, rfl, rfl, rfl, fun _ => rfl⟩

set_option maxRecDepth 100000 in
set_option maxHeartbeats 2000000 in
theorem fly_c {w : World} {n b pb : Nat} {s : St} {l : List Ev} (k : Nat) (hk : k < 6) (h : Gs w n b pb s l) (hb : Mb (shS s k)) (h0 : Mp s.p0) (h1 : Mp s.p1) :
 Calls Tryz.prog 64 #[.pointer (some ⟨b, 0, none⟩), .int .i64 k] w fun e w' => e = .returned (.tuple #[]) ∧ Gk w w' n b pb (flyP k (s, l)).1 (flyP k (s, l)).2 := by
 have HK := hid h.gk
 have hk0 : (0 : Int) ≤ (k : Int) := by omega
 have hk1 : (k : Int) < 6 := by omega
 obtain ⟨b0, b1, b2, b3, b4, b5⟩ := h.bk hk
 have HF : Hid (flyP k (s, l) = if (shS s k).ow = 0 then (s, l) else if (shS s k).li = 1 ∨ inA (onB (shS s k)).ax (onB (shS s k)).ay = false then (setS s k zeroB, l) else if hitsB s (onB (shS s k)) = true then hitP (othN (shS s k)) (setS s k zeroB, l) else (setS s k (onB (shS s k)), l)) := hid rfl
 generalize shS s k = X at hb b0 b1 b2 b3 b4 b5 HF
 obtain ⟨⟨t0, t1, t2, t3⟩, hok⟩ := hb
 have HA := hid (At.new w (buA X) 62)
 have HK1 := hid (HK.out.below (Ev.bal (Ev.br w) (.cells (buA X) 62)))
 go_enter Tryz.func64, Tryz.ntmps64
 go_upto_region 1 with fail
 generalize World.alloc w _ = w1 at HA HK1 ⊢
 generalize hC : w.heap.size = C at HA ⊢
 clear b0 b1 b2 b3 b4 b5
 have d0 := at_bu HA.out
 obtain ⟨c0, c1, c2, c3, c4, c5⟩ := d0
 by_cases hz : X = zeroB
 · have HS : Hid (flyP k (s, l) = (s, l)) := hid (by rw [HF.out, if_pos (by rw [hz]; rfl)])
   have hd : decide (X = zeroB) = true := by simp [hz]
   clear HF hok
   go_wp2_with (go_at_call 98; ((with_reducible refine (isfree_c _ _).mono ?_); rintro e w2 ⟨rfl, g2⟩; have HK2 := hid (HK1.out.below g2); first | rw [hd] | rw [show decide (zeroB = zeroB) = true from rfl]))
   refine bodyPost_ret (results_none rfl _ _ _) rfl ?_
   exact ⟨rfl, by rw [HS.out]; exact HK2.out⟩
 have hok : (1 ≤ X.ow ∧ X.ow ≤ 2) ∧ (1 ≤ X.li ∧ X.li ≤ 40) := by
  rcases hok with e | e
  · exact absurd e hz
  · exact e
 have hd : decide (X = zeroB) = false := by simp [hz]
 rw [if_neg (by omega)] at HF
 go_upto_region 2 with (go_at_call 98; ((with_reducible refine (isfree_c _ _).mono ?_); rintro e w2 ⟨rfl, g2⟩; have HK2 := hid (HK1.out.below g2); have HA2 := hid (HA.out.below g2); rw [hd]))
 clear c0 c1 c2 c3 c4 c5 HA HK1 hz hd
 obtain ⟨b0, b1, b2, b3, b4, b5⟩ := HK2.out.gs.bk hk
 have f2 := HK2.out.gs.frozen
 go_upto_region 3 with fail
 have hne := HK2.out.gs.ne HA2.out (by decide)
 have HK3 : Hid (Gk w ((((((w2.setCell ⟨b, 24 + k * 6, none⟩ (.int .i32 0)).setCell ⟨b, 24 + k * 6 + 1, none⟩ (.int .i32 0)).setCell ⟨b, 24 + k * 6 + 2, none⟩ (.int .i32 0)).setCell ⟨b, 24 + k * 6 + 3, none⟩ (.int .i32 0)).setCell ⟨b, 24 + k * 6 + 4, none⟩ (.int .i64 0)).setCell ⟨b, 24 + k * 6 + 5, none⟩ (.int .i64 0)) n b pb (setS s k zeroB) l) := hid (HK2.out.shotK zeroB hk)
 have HA3 := hid ((((((HA2.out.far hne (.int .i32 0) (j := 24 + k * 6)).far hne (.int .i32 0) (j := 24 + k * 6 + 1)).far hne (.int .i32 0) (j := 24 + k * 6 + 2)).far hne (.int .i32 0) (j := 24 + k * 6 + 3)).far hne (.int .i64 0) (j := 24 + k * 6 + 4)).far hne (.int .i64 0) (j := 24 + k * 6 + 5))
 generalize World.setCell (World.setCell (World.setCell (World.setCell (World.setCell (World.setCell w2 _ _) _ _) _ _) _ _) _ _) _ _ = w3 at HK3 HA3 ⊢
 clear b0 b1 b2 b3 b4 b5 f2
 obtain ⟨c0, c1, c2, c3, c4, c5⟩ := at_bu HA3.out
 have f3 := HA3.out.frozen
 have hCn : w.heap.size ≤ C := by omega
 have hnC : n ≤ C := Nat.le_trans h.size hCn
 go_upto_region 4 with fail
 have HA4 : Hid (At (w3.setCell ⟨C, 5, none⟩ (.int .i64 (X.li - 1))) C (buA { X with li := X.li - 1 }) 62) := hid (at_set HA3.out 5 _)
 have HK4 := hid (HK3.out.other HA3.out (by decide) (by decide) (by decide) hCn hnC 5 (.int .i64 (X.li - 1)))
 generalize World.setCell w3 _ _ = w4 at HA4 HK4 ⊢
 clear c0 c1 c2 c3 c4 c5 f3 HA2 HK2 HA3 HK3 hne
 obtain ⟨c0, c1, c2, c3, c4, c5⟩ := at_bu HA4.out
 dsimp only at c0 c1 c2 c3 c4 c5
 go_upto_region 5 with (go_at_call 109; ((with_reducible refine (Sh.vadd_c _ _ _ _ t0 t1 t2 t3 _).mono ?_); rintro e w5 ⟨rfl, g5⟩; have HA5 := hid (HA4.out.below g5); have HK5 := hid (HK4.out.below g5); obtain ⟨c0, c1, c2, c3, c4, c5⟩ := at_bu HA5.out; have f5 := HA5.out.frozen))
 have HA6 : Hid (At ((w5.setCell ⟨C, 0, none⟩ (.int .i32 (satI (X.ax + X.vx)))).setCell ⟨C, 1, none⟩ (.int .i32 (satI (X.ay + X.vy)))) C (buA (onB X)) 62) := hid (at_set (at_set HA5.out 0 _) 1 _)
 have HK6 := hid ((HK5.out.other HA5.out (by decide) (by decide) (by decide) hCn hnC 0 (.int .i32 (satI (X.ax + X.vx)))).other (at_set HA5.out 0 _) (by decide) (by decide) (by decide) hCn hnC 1 (.int .i32 (satI (X.ay + X.vy))))
 generalize World.setCell (World.setCell w5 _ _) _ _ = w6 at HA6 HK6 ⊢
 clear c0 c1 c2 c3 c4 c5 f5 HA4 HK4 HA5 HK5
 have hO : Hid ((onB X).li = X.li - 1 ∧ (onB X).ow = X.ow ∧ In32 (onB X).ax ∧ In32 (onB X).ay) := hid ⟨rfl, rfl, sat_bd _, sat_bd _⟩
 have hot : Hid (othN X = othN (onB X)) := hid rfl
 generalize onB X = Y at HA6 HK6 HF hO hot
 have hK := hid (fun W (g : Below w6.heap.size w6 W) => at_bu (HA6.out.below g))
 have hS2 := sh_set hk zeroB (s := s)
 have hSY := hS2.2.2.2.2 Y
 obtain ⟨-, e0, e1, e2, -⟩ := hS2
 generalize setS s k zeroB = S2 at HK6 HF e0 e1 e2 hSY
 have HE := hid (And.intro e0 (And.intro e1 (And.intro e2 hSY)))
 clear e0 e1 e2 hSY
 by_cases hl : X.li = 1
 case pos =>
  have HS : Hid (flyP k (s, l) = (S2, l)) := hid (by rw [HF.out, if_pos (.inl hl)])
  have hy : Y.li = 0 := by have := hO.out.1; omega
  clear HF hok hot
  go_upto_region 5 with fail
  refine wp_region_noPanic ?_
  refine wp_region_held_drew (S := (fun W => Below w6.heap.size w6 W)) (by kernel_rfl) (by first | exact Ev.bd1 (Ev.br _) | exact Ev.bdn (Ev.br _) _ | exact Ev.br _) (fun hHeld => ?_)
  refine tkA 0 34 ?_
  simp only [pa, pu2, pu3]
  refine tkL 1 35 hK.out ?_
  simp only [pa, pu2, pu3]
  refine tkA 2 36 ?_
  simp only [pa, pu2, pu3]
  refine tkA 3 37 ?_
  simp only [pa, pu2, pu3]
  refine tkS 4 38 ?_
  simp only [pa, pu2, pu3]
  refine tkS 5 39 ?_
  simp only [pa, pu2, pu3]
  refine tkS 6 40 ?_
  simp only [pa, pu2, pu3]
  refine tkS 7 41 ?_
  simp only [pa, pu2, pu3]
  refine tkS 8 42 ?_
  simp only [pa, pu2, pu3]
  refine tkA 9 43 ?_
  simp only [pa, pu2, pu3]
  refine wpAnyH_done (by kernel_rfl) ?_ _
  refine NoPanic.normal ?_
  go_wp2_with fail
  refine bodyPost_ret (results_none rfl _ _ _) rfl ?_
  exact ⟨rfl, by rw [HS.out]; exact HK6.out.below (show Below w6.heap.size w6 _ by first | with_reducible assumption | exact Ev.bdn (Ev.br _) _ | exact Ev.bd1 (Ev.br _) | exact Ev.br _)⟩
 have hy : ¬ Y.li = 0 := by have := hO.out.1; omega
 have hyb : (Y.li == 0) = false := by simp [hy]
 have hyd : decide (Y.li = 0) = false := by simp [hy]
 have hT : ∃ T : Bool, Hid (inA Y.ax Y.ay = T) := ⟨_, rfl⟩
 obtain ⟨T, hT⟩ := hT
 have HI := fun W => Sh.inside_c (-4194304) (-4194304) 4194304 4194304 Y.ax Y.ay W
 rw [show insideB (-4194304) (-4194304) 4194304 4194304 Y.ax Y.ay = T from hT.out] at HI
 go_upto_region 5 with fail
 refine wp_region_noPanic ?_
 refine wp_region_held_drew (S := (fun W => Below w6.heap.size w6 W)) (by kernel_rfl) (by first | exact Ev.bd1 (Ev.br _) | exact Ev.bdn (Ev.br _) _ | exact Ev.br _) (fun hHeld => ?_)
 refine tkA 0 34 ?_
 simp only [pa, pu2, pu3]
 refine tkL 1 35 hK.out ?_
 simp only [pa, pu2, pu3]
 refine tkA 2 36 ?_
 simp only [pa, pu2, pu3]
 refine tkA 3 37 ?_
 simp only [pa, pu2, pu3]
 refine tkA 5 39 ?_
 simp only [pa, pu2, pu3]
 refine tkL 6 40 hK.out ?_
 simp only [pa, pu2, pu3]
 refine onA 4 (fun K hKK => ?_)
 go_simp
 ((refine (arena_c _).mono ?_); rintro e y1 ⟨rfl, g1⟩; have hgy1 := Ev.bt (show Below w6.heap.size w6 _ by first | with_reducible assumption | exact Ev.bdn (Ev.br _) _ | exact Ev.bd1 (Ev.br _) | exact Ev.br _) g1)
 dsimp only
 refine hKK.out _ _ hgy1 (fun hHeld => ?_)
 clear hKK K
 (try simp only [Act.put, pu1, pu2, pu3])
 refine onA 7 (fun K hKK => ?_)
 go_simp
 ((refine (HI _).mono ?_); rintro e y2 ⟨rfl, g2⟩; have hgy2 := Ev.bt (show Below w6.heap.size w6 _ by first | with_reducible assumption | exact Ev.bdn (Ev.br _) _ | exact Ev.bd1 (Ev.br _) | exact Ev.br _) g2)
 dsimp only
 refine hKK.out _ _ hgy2 (fun hHeld => ?_)
 clear hKK K
 (try simp only [Act.put, pu1, pu2, pu3])
 refine tkA 8 42 ?_
 simp only [pa, pu2, pu3]
 refine tkA 9 43 ?_
 simp only [pa, pu2, pu3]
 refine wpAnyH_done (by kernel_rfl) ?_ _
 refine NoPanic.normal ?_
 have HK7 := hid (HK6.out.below (show Below w6.heap.size w6 _ by first | with_reducible assumption | exact Ev.bdn (Ev.br _) _ | exact Ev.bd1 (Ev.br _) | exact Ev.br _))
 have HA7 := hid (HA6.out.below (show Below w6.heap.size w6 _ by first | with_reducible assumption | exact Ev.bdn (Ev.br _) _ | exact Ev.bd1 (Ev.br _) | exact Ev.br _))
 clear hK HI
 rw [hT.out] at HF
 cases T
 case false =>
  have HS : Hid (flyP k (s, l) = (S2, l)) := hid (by rw [HF.out, if_pos (.inr rfl)])
  clear HF hok hot
  go_wp2_with fail
  refine bodyPost_ret (results_none rfl _ _ _) rfl ?_
  exact ⟨rfl, by rw [HS.out]; exact HK7.out⟩
 case true =>
  rw [if_neg (by simp [hl])] at HF
  have hw : X.ow = 1 ∨ X.ow = 2 := by omega
  rcases hw with e | e
  · have ho : othN X = 1 := by simp [othN, e]
    have hw : Y.ow = 1 := by have := hO.out.2.1; omega
    have HP := hid (show S2.p1 = s.p1 from HE.out.2.1)
    have hQ : S2.p1 = s.p1 := HP.out
    have c4 : y2.cell? ⟨C, 4, none⟩ = some (.int .i64 1) := (at_bu HA7.out).2.2.2.2.1.trans (by rw [hw])
    obtain ⟨q4, q5, q6, q7, q8, q9, q10, q11, q12, q13⟩ := HK7.out.gs.p1
    rw [hQ] at q4 q5 q6 q7 q8 q9 q10 q11 q12 q13
    have HAp := hid (At.new y2 (plA s.p1) 59)
    have HK8 := hid (HK7.out.below (Ev.bal (Ev.br y2) (.cells (plA s.p1) 59)))
    have HA8 := hid (HA7.out.more (.cells (plA s.p1) 59))
    have HSn : Hid (hitsB s Y = (decide (s.p1.dn = 0) && touchB s.p1.ax s.p1.ay 262144 Y.ax Y.ay 65536)) := hid (by unfold hitsB; rw [← hot.out, ho]; rfl)
    rw [HSn.out, ho] at HF
    go_upto_region 9 with fail
    generalize World.alloc y2 _ = w8 at HAp HK8 HA8 ⊢
    generalize y2.heap.size = D at HAp ⊢
    clear q4 q5 q6 q7 q8 q9 q10 q11 q12 q13 c4 HSn HK7 HA7 hQ
    obtain ⟨r0, r1, r2, r3, r4, r5, r6, r7, r8, r9⟩ := at_pl HAp.out
    obtain ⟨c0, c1, c2, c3, c4, c5⟩ := at_bu HA8.out
    by_cases hdn : s.p1.dn = 0
    · have hdb : (s.p1.dn == 0) = true := by simp [hdn]
      have hT2 : ∃ T : Bool, Hid (touchB s.p1.ax s.p1.ay 262144 Y.ax Y.ay 65536 = T) := ⟨_, rfl⟩
      obtain ⟨T, hT2⟩ := hT2
      have HC := fun W => Sh.touch_c s.p1.ax s.p1.ay 262144 Y.ax Y.ay 65536 (in32_of h1.ax) (in32_of h1.ay) (by decide) hO.out.2.2.1 hO.out.2.2.2 (by decide) W
      rw [hT2.out] at HC HF
      have hh : 1 ≤ s.p1.hp ∧ s.p1.hp ≤ 3 := ⟨h1.up hdn, h1.hp.2⟩
      have hx := h1.ax
      have hs := h0.sc
      cases T
      case true =>
       have HS : Hid (flyP k (s, l) = hitP 1 (S2, l)) := hid (by rw [HF.out, if_pos (by simp [hdn])])
       clear HF hT2
       go_upto_region 10 with (go_at_call 107; ((with_reducible refine (HC _).mono ?_); rintro e w9 ⟨rfl, g9⟩; have HK9 := hid (HK8.out.below g9)))
       have HU := hid (show S2.p0 = s.p0 from HE.out.1)
       have hx' : -4194304 ≤ S2.p1.ax ∧ S2.p1.ax ≤ 4194304 := by rw [HP.out]; exact hx
       have hh' : 1 ≤ S2.p1.hp ∧ S2.p1.hp ≤ 3 := by rw [HP.out]; exact hh
       have hs' : 0 ≤ S2.p0.sc ∧ S2.p0.sc ≤ 1000 := by rw [HU.out]; exact hs
       have HH := hid (hit1_c HK9.out.gs hx' hh' hs')
       clear hx' hh' hs' r0 r1 r2 r3 r4 r5 r6 r7 r8 r9 c0 c1 c2 c3 c4 c5
       go_wp2_with (go_at_call 112; ((with_reducible refine HH.out.mono ?_); rintro e wA ⟨rfl, gA⟩; have HKA := hid (HK9.out.step gA)))
       refine bodyPost_ret (results_none rfl _ _ _) rfl ?_
       exact ⟨rfl, by rw [HS.out]; exact HKA.out⟩
      case false =>
       have HS : Hid (flyP k (s, l) = (setS s k Y, l)) := hid (by rw [HF.out, if_neg (by simp [hdn])])
       clear HF hT2
       go_upto_region 11 with (go_at_call 107; ((with_reducible refine (HC _).mono ?_); rintro e w9 ⟨rfl, g9⟩; have HK9 := hid (HK8.out.below g9); have HA9 := hid (HA8.out.below g9)))
       clear r0 r1 r2 r3 r4 r5 r6 r7 r8 r9 c0 c1 c2 c3 c4 c5
       obtain ⟨c0, c1, c2, c3, c4, c5⟩ := at_bu HA9.out
       obtain ⟨b0, b1, b2, b3, b4, b5⟩ := HK9.out.gs.bk hk
       have f9 := HK9.out.gs.frozen
       go_region
       have HKz := hid (HK9.out.shotK Y hk)
       rw [hw] at HKz
       generalize World.setCell (World.setCell (World.setCell (World.setCell (World.setCell (World.setCell w9 _ _) _ _) _ _) _ _) _ _) _ _ = wz at HKz ⊢
       go_end0
       exact ⟨rfl, by rw [HS.out, ← HE.out.2.2.2]; exact HKz.out.below (Ev.bd1 (Ev.br _))⟩
    · have hdb : (s.p1.dn == 0) = false := by simp [hdn]
      have HS : Hid (flyP k (s, l) = (setS s k Y, l)) := hid (by rw [HF.out, if_neg (by simp [hdn])])
      clear HF
      go_upto_region 11 with fail
      clear r0 r1 r2 r3 r4 r5 r6 r7 r8 r9
      obtain ⟨b0, b1, b2, b3, b4, b5⟩ := HK8.out.gs.bk hk
      have f9 := HK8.out.gs.frozen
      go_region
      have HKz := hid (HK8.out.shotK Y hk)
      rw [hw] at HKz
      generalize World.setCell (World.setCell (World.setCell (World.setCell (World.setCell (World.setCell w8 _ _) _ _) _ _) _ _) _ _) _ _ = wz at HKz ⊢
      go_end0
      exact ⟨rfl, by rw [HS.out, ← HE.out.2.2.2]; exact HKz.out.below (Ev.bd1 (Ev.br _))⟩
  · have ho : othN X = 0 := by simp [othN, e]
    have hw : Y.ow = 2 := by have := hO.out.2.1; omega
    have HP := hid (show S2.p0 = s.p0 from HE.out.1)
    have hQ : S2.p0 = s.p0 := HP.out
    have c4 : y2.cell? ⟨C, 4, none⟩ = some (.int .i64 2) := (at_bu HA7.out).2.2.2.2.1.trans (by rw [hw])
    obtain ⟨q4, q5, q6, q7, q8, q9, q10, q11, q12, q13⟩ := HK7.out.gs.p0
    rw [hQ] at q4 q5 q6 q7 q8 q9 q10 q11 q12 q13
    have HAp := hid (At.new y2 (plA s.p0) 59)
    have HK8 := hid (HK7.out.below (Ev.bal (Ev.br y2) (.cells (plA s.p0) 59)))
    have HA8 := hid (HA7.out.more (.cells (plA s.p0) 59))
    have HSn : Hid (hitsB s Y = (decide (s.p0.dn = 0) && touchB s.p0.ax s.p0.ay 262144 Y.ax Y.ay 65536)) := hid (by unfold hitsB; rw [← hot.out, ho]; rfl)
    rw [HSn.out, ho] at HF
    go_upto_region 9 with fail
    generalize World.alloc y2 _ = w8 at HAp HK8 HA8 ⊢
    generalize y2.heap.size = D at HAp ⊢
    clear q4 q5 q6 q7 q8 q9 q10 q11 q12 q13 c4 HSn HK7 HA7 hQ
    obtain ⟨r0, r1, r2, r3, r4, r5, r6, r7, r8, r9⟩ := at_pl HAp.out
    obtain ⟨c0, c1, c2, c3, c4, c5⟩ := at_bu HA8.out
    by_cases hdn : s.p0.dn = 0
    · have hdb : (s.p0.dn == 0) = true := by simp [hdn]
      have hT2 : ∃ T : Bool, Hid (touchB s.p0.ax s.p0.ay 262144 Y.ax Y.ay 65536 = T) := ⟨_, rfl⟩
      obtain ⟨T, hT2⟩ := hT2
      have HC := fun W => Sh.touch_c s.p0.ax s.p0.ay 262144 Y.ax Y.ay 65536 (in32_of h0.ax) (in32_of h0.ay) (by decide) hO.out.2.2.1 hO.out.2.2.2 (by decide) W
      rw [hT2.out] at HC HF
      have hh : 1 ≤ s.p0.hp ∧ s.p0.hp ≤ 3 := ⟨h0.up hdn, h0.hp.2⟩
      have hx := h0.ax
      have hs := h1.sc
      cases T
      case true =>
       have HS : Hid (flyP k (s, l) = hitP 0 (S2, l)) := hid (by rw [HF.out, if_pos (by simp [hdn])])
       clear HF hT2
       go_upto_region 10 with (go_at_call 107; ((with_reducible refine (HC _).mono ?_); rintro e w9 ⟨rfl, g9⟩; have HK9 := hid (HK8.out.below g9)))
       have HU := hid (show S2.p1 = s.p1 from HE.out.2.1)
       have hx' : -4194304 ≤ S2.p0.ax ∧ S2.p0.ax ≤ 4194304 := by rw [HP.out]; exact hx
       have hh' : 1 ≤ S2.p0.hp ∧ S2.p0.hp ≤ 3 := by rw [HP.out]; exact hh
       have hs' : 0 ≤ S2.p1.sc ∧ S2.p1.sc ≤ 1000 := by rw [HU.out]; exact hs
       have HH := hid (hit0_c HK9.out.gs hx' hh' hs')
       clear hx' hh' hs' r0 r1 r2 r3 r4 r5 r6 r7 r8 r9 c0 c1 c2 c3 c4 c5
       go_wp2_with (go_at_call 112; ((with_reducible refine HH.out.mono ?_); rintro e wA ⟨rfl, gA⟩; have HKA := hid (HK9.out.step gA)))
       refine bodyPost_ret (results_none rfl _ _ _) rfl ?_
       exact ⟨rfl, by rw [HS.out]; exact HKA.out⟩
      case false =>
       have HS : Hid (flyP k (s, l) = (setS s k Y, l)) := hid (by rw [HF.out, if_neg (by simp [hdn])])
       clear HF hT2
       go_upto_region 11 with (go_at_call 107; ((with_reducible refine (HC _).mono ?_); rintro e w9 ⟨rfl, g9⟩; have HK9 := hid (HK8.out.below g9); have HA9 := hid (HA8.out.below g9)))
       clear r0 r1 r2 r3 r4 r5 r6 r7 r8 r9 c0 c1 c2 c3 c4 c5
       obtain ⟨c0, c1, c2, c3, c4, c5⟩ := at_bu HA9.out
       obtain ⟨b0, b1, b2, b3, b4, b5⟩ := HK9.out.gs.bk hk
       have f9 := HK9.out.gs.frozen
       go_region
       have HKz := hid (HK9.out.shotK Y hk)
       rw [hw] at HKz
       generalize World.setCell (World.setCell (World.setCell (World.setCell (World.setCell (World.setCell w9 _ _) _ _) _ _) _ _) _ _) _ _ = wz at HKz ⊢
       go_end0
       exact ⟨rfl, by rw [HS.out, ← HE.out.2.2.2]; exact HKz.out.below (Ev.bd1 (Ev.br _))⟩
    · have hdb : (s.p0.dn == 0) = false := by simp [hdn]
      have HS : Hid (flyP k (s, l) = (setS s k Y, l)) := hid (by rw [HF.out, if_neg (by simp [hdn])])
      clear HF
      go_upto_region 11 with fail
      clear r0 r1 r2 r3 r4 r5 r6 r7 r8 r9
      obtain ⟨b0, b1, b2, b3, b4, b5⟩ := HK8.out.gs.bk hk
      have f9 := HK8.out.gs.frozen
      go_region
      have HKz := hid (HK8.out.shotK Y hk)
      rw [hw] at HKz
      generalize World.setCell (World.setCell (World.setCell (World.setCell (World.setCell (World.setCell w8 _ _) _ _) _ _) _ _) _ _) _ _ = wz at HKz ⊢
      go_end0
      exact ⟨rfl, by rw [HS.out, ← HE.out.2.2.2]; exact HKz.out.below (Ev.bd1 (Ev.br _))⟩

end Go.Proofs.YtfclnhmijjlhdaaGreatDoor.Gm

namespace Go.Proofs.YtfclnhmijjlhdaaGreatDoor.Gm
open Go.RowKit Go.Proofs.YtfclnhmijjlhdaaGreatDoor.Fx Go.Proofs.YtfclnhmijjlhdaaGreatDoor.Tg Go.Proofs.YtfclnhmijjlhdaaGreatDoor.Dc
open Go.Proofs.YtfclnhmijjlhdaaGreatDoor.Ev (Ev Ky addR pageI At ecs Pg Evs)
open Go.Proofs.YtfclnhmijjlhdaaGreatDoor.Sh (In32 vec box insideB touchB slI mvP mvV wallI)
set_option linter.unusedVariables false

set_option maxRecDepth 100000 in
set_option maxHeartbeats 2000000 in
theorem count_c {w : World} {n b pb : Nat} {s : St} {l : List Ev} (h : Gs w n b pb s l) (hl : 1 ≤ s.lf ∧ s.lf ≤ 600) (hr : 0 ≤ s.rd ∧ s.rd ≤ 1073741824) :
 Calls Tryz.prog 65 #[.pointer (some ⟨b, 0, none⟩)] w fun e w' => e = .returned (.tuple #[]) ∧ Gk w w' n b pb (countP (s, l)).1 (countP (s, l)).2 := by
 have HK := hid h.gk
 obtain ⟨z0, z1, z2, z3, _⟩ := h.hd
 have f0 := h.frozen
 go_enter Tryz.func65, Tryz.ntmps65
 go_upto_region 1 with fail
 have HK1 : Hid (Gk w (w.setCell ⟨b, 3, none⟩ (.int .i64 (s.lf - 1))) n b pb { s with lf := s.lf - 1 } l) := hid (HK.out.set rfl (by decide) rfl)
 generalize World.setCell w _ _ = w1 at HK1 ⊢
 clear z0 z1 z2 z3 f0
 obtain ⟨z0, z1, z2, z3, _⟩ := HK1.out.gs.hd
 dsimp only at z3
 obtain ⟨q4, q5, q6, q7, q8, q9, q10, q11, q12, q13⟩ := HK1.out.gs.p0
 obtain ⟨r4, r5, r6, r7, r8, r9, r10, r11, r12, r13⟩ := HK1.out.gs.p1
 dsimp only at q13 r13
 have hc : 1 < s.lf ∧ s.p0.sc < 3 ∧ s.p1.sc < 3 ∨ (s.lf = 1 ∨ 3 ≤ s.p0.sc ∨ 3 ≤ s.p1.sc) := by omega
 rcases hc with ⟨c1, c2, c3⟩ | hc
 · have HS : Hid (countP (s, l) = ({ s with lf := s.lf - 1 }, l)) := hid (by simp only [countP]; rw [if_neg (by omega)])
   have d1 : 0 < s.lf - 1 := by omega
   go_wp2_with fail
   refine bodyPost_ret (results_none rfl _ _ _) rfl ?_
   exact ⟨rfl, by rw [HS.out]; exact HK1.out⟩
 · have HS : Hid (countP (s, l) = (⟨s.fr, s.di, s.rd + 1, 600, fresh0, fresh1, zeroB, zeroB, zeroB, zeroB, zeroB, zeroB⟩, tel s.fr l 0 7 0)) := hid (by simp only [countP]; rw [if_pos hc])
   have hcc : (s.lf = 1) ∨ (1 < s.lf ∧ 3 ≤ s.p0.sc) ∨ (1 < s.lf ∧ s.p0.sc < 3 ∧ 3 ≤ s.p1.sc) := by omega
   have hz : (¬ 0 < s.lf - 1) ∨ (0 < s.lf - 1 ∧ ¬ s.p0.sc < 3) ∨ (0 < s.lf - 1 ∧ s.p0.sc < 3 ∧ ¬ s.p1.sc < 3) := by omega
   clear hcc hc
   go_upto_region 1 with fail
   go_cut [36] (fun s36 wx => s36 = .bool false ∧ w1 = wx)
   case first =>
    rcases hz with d1 | ⟨d1, d2⟩ | ⟨d1, d2, d3⟩
    all_goals
     go_wp2_with fail
     go_meet
     case rel => exact ⟨rfl, rfl⟩
   case rest =>
    obtain ⟨rfl, rfl⟩ := hcut
    clear q4 q5 q6 q7 q8 q9 q10 q11 q12 q13 r4 r5 r6 r7 r8 r9 r10 r11 r12 r13
    have f1 := HK1.out.gs.frozen
    go_upto_region 4 with fail
    have HK2 : Hid (Gk w ((w1.setCell ⟨b, 2, none⟩ (.int .i64 (s.rd + 1))).setCell ⟨b, 3, none⟩ (.int .i64 600)) n b pb { s with rd := s.rd + 1, lf := 600 } l) := hid ((HK1.out.set (j := 2) (s' := { s with rd := s.rd + 1, lf := s.lf - 1 }) rfl (by decide) rfl).set rfl (by decide) rfl)
    generalize World.setCell (World.setCell w1 _ _) _ _ = w2 at HK2 ⊢
    clear z0 z1 z2 z3 f1
    go_upto_region 5 with (first
     | (go_at_call 59; ((with_reducible refine (begin_c _).mono ?_); rintro e w3 ⟨rfl, g3⟩; have HK3 := hid (HK2.out.below g3)))
     | (refine wpList_store_at rfl 60 _ _ rfl b 4 (plC fresh0 ++ plC fresh1) rfl rfl 113 _ HK3.out.gs.blk (by kernel_rfl) (by show 24 ≤ 61; decide) rfl ?_))
    generalize hW : World.setRow w3 b _ = w4
    have HK4 : Hid (Gk w w4 n b pb { s with rd := s.rd + 1, lf := 600, p0 := fresh0, p1 := fresh1 } l) := hid (by rw [← hW]; exact HK3.out.row { s with rd := s.rd + 1, lf := 600, p0 := fresh0, p1 := fresh1 } rfl)
    clear hW HK3 HK2 HK1
    go_upto_region 6 with (refine wpList_store_at rfl 63 _ _ rfl b 24 (buC zeroB ++ buC zeroB ++ buC zeroB ++ buC zeroB ++ buC zeroB ++ buC zeroB) rfl rfl 113 _ HK4.out.gs.blk (by kernel_rfl) (by show 60 ≤ 61; decide) rfl ?_)
    generalize hW : World.setRow w4 b _ = w5
    have HK5 : Hid (Gk w w5 n b pb ⟨s.fr, s.di, s.rd + 1, 600, fresh0, fresh1, zeroB, zeroB, zeroB, zeroB, zeroB, zeroB⟩ l) := hid (by rw [← hW]; exact HK4.out.row ⟨s.fr, s.di, s.rd + 1, 600, fresh0, fresh1, zeroB, zeroB, zeroB, zeroB, zeroB, zeroB⟩ rfl)
    clear hW HK4
    go_wp2_with (go_at_call 108; ((refine (tl0_7 HK5.out.gs).mono ?_); rintro e w6 ⟨rfl, g6⟩; have HK6 := hid (HK5.out.step g6); clear g6))
    go_end0
    exact ⟨rfl, by rw [HS.out]; exact HK6.out⟩

end Go.Proofs.YtfclnhmijjlhdaaGreatDoor.Gm

namespace Go.Proofs.YtfclnhmijjlhdaaGreatDoor.Gm
open Go.RowKit
open Go.Proofs.YtfclnhmijjlhdaaGreatDoor.Ev (At)
set_option linter.unusedVariables false

set_option maxRecDepth 100000 in
set_option maxHeartbeats 2000000 in
theorem start_c (seed : Int) (w : World) :
 Calls Tryz.prog 19 #[.int .u32 seed] w fun e w' => e = .returned (.agg (stC (beginS seed)).toArray) ∧ Below w.heap.size w w' := by
 have HN := hid (At.new w (stC zeroS).toArray 65)
 have HB := hid (Ev.bal (Ev.br w) (.cells (stC zeroS).toArray 65))
 go_enter Tryz.func19, Tryz.ntmps19
 go_upto_region 1 with fail
 generalize hw : World.alloc w _ = w0
 have HN0 : Hid (At w0 w.heap.size (stC zeroS).toArray 65) := hid (by rw [← hw]; exact HN.out)
 have HB0 : Hid (Below w.heap.size w w0) := hid (by rw [← hw]; exact HB.out)
 clear hw HN HB
 go_wp2_with (first
  | (go_at_call 59; ((with_reducible refine (begin_c _).mono ?_); rintro e w1 ⟨rfl, g1⟩; have HN1 := hid (HN0.out.below g1); have HB1 := hid (Ev.bt HB0.out g1)))
  | (refine wpList_store_at rfl 65 _ _ rfl w.heap.size 0 (stC (beginS seed)) rfl rfl 65 _ HN1.out (by kernel_rfl) (by show 60 ≤ 60; decide) rfl ?_))
 have HS : Hid (At (w1.setRow w.heap.size (stC (beginS seed)).toArray) w.heap.size (stC (beginS seed)).toArray 65) := hid (at_row HN1.out _)
 have HB2 : Hid (Below w.heap.size w (w1.setRow w.heap.size (stC (beginS seed)).toArray)) := hid (below_row HB1.out (Nat.le_refl _) _)
 refine bodyPost_ret (results_cell_row rfl _ _ w.heap.size 65 (stC (beginS seed)).toArray (0, 0) _ rfl HS.out Tryz.underlying65 rfl (by kernel_rfl)) rfl ?_
 exact ⟨rfl, HB2.out⟩

end Go.Proofs.YtfclnhmijjlhdaaGreatDoor.Gm
