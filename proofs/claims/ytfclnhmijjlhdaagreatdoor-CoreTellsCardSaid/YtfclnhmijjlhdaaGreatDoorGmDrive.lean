/- One that is down (layer 12, game). -/
/- What changes the way (layer 12, game). -/
/- What changes the way of the other one (layer 12, game). -/
import Derived.Test.YtfclnhmijjlhdaaGreatDoorJ10
import Derived.Deep.DeepCutAuto
import Derived.Deep.RegionWith
namespace Go.Proofs.YtfclnhmijjlhdaaGreatDoor.Gm
open Go.RowKit Go.Proofs.YtfclnhmijjlhdaaGreatDoor.Fx Go.Proofs.YtfclnhmijjlhdaaGreatDoor.Tg Go.Proofs.YtfclnhmijjlhdaaGreatDoor.Dc
open Go.Proofs.YtfclnhmijjlhdaaGreatDoor.Ev (Ev Ky addR pageI At ecs Pg Evs)
open Go.Proofs.YtfclnhmijjlhdaaGreatDoor.Sh (In32 vec box insideB touchB slI mvP mvV wallI)
set_option linter.unusedVariables false

set_option maxRecDepth 100000 in
set_option maxHeartbeats 2000000 in
theorem rest0_c {w : World} {n b pb : Nat} {s : St} {l : List Ev} (h : Gs w n b pb s l) (hd : 1 ≤ s.p0.dn ∧ s.p0.dn ≤ 30) (hdi : 0 ≤ s.di ∧ s.di < 4294967296) :
 Calls Tryz.prog 101 #[.pointer (some ⟨b, 0, none⟩), .int .i64 0] w fun e w' => e = .returned (.tuple #[]) ∧ Gk w w' n b pb (restP 0 (s, l)).1 (restP 0 (s, l)).2 := by
 have HK := hid h.gk
 have f0 := h.frozen
 by_cases c : s.p0.dn = 1
 case neg =>
  rw [show restP 0 (s, l) = ({ s with p0 := { s.p0 with dn := s.p0.dn - 1 } }, l) by simp [restP, plS, setP, c]]
  have c1 : 0 < s.p0.dn - 1 := by omega
  obtain ⟨q4, q5, q6, q7, q8, q9, q10, q11, q12, q13⟩ := h.p0
  go_enter Tryz.func101, Tryz.ntmps101
  go_wp2_with fail
  refine bodyPost_ret (results_none rfl _ _ _) rfl ?_
  exact ⟨rfl, HK.out.set rfl (by decide) rfl⟩
 case pos =>
  have hK : ∃ K : Int, Hid (thI (nxI s.di) 4 = K) ∧ (K = 0 ∨ K = 1 ∨ K = 2 ∨ K = 3) := by
   obtain ⟨_, _, t3, t4⟩ := th_bd (nxI s.di) 4 (nx_bd s.di) (by decide)
   exact ⟨_, rfl, by omega⟩
  obtain ⟨K, hK, hk⟩ := hK
  have HT := fun W => throw_c s.di 4 (by decide) W
  rw [hK.out] at HT
  have c0 : w.cell? ⟨b, 12, none⟩ = some (.int .i64 1) := h.p0.2.2.2.2.2.2.2.2.1.trans (by rw [c])
  have HS : Hid (restP 0 (s, l) = ({ s with p0 := ⟨cornX K, cornY K, 0, 0, 0, 3, 0, 0, 0, s.p0.sc⟩, di := nxI s.di }, tel s.fr l 1 6 (cornX K))) := hid (by simp [restP, plS, setP, c, hK.out])
  rw [HS.out]
  clear HS hK
  have HK1 : Hid (Gk w (w.setCell ⟨b, 12, none⟩ (.int .i64 0)) n b pb { s with p0 := { s.p0 with dn := 0 } } l) := hid (HK.out.set rfl (by decide) rfl)
  clear HK hd c
  rcases hk with rfl | rfl | rfl | rfl
  · rw [show cornX 0 = (-2621440) from rfl, show cornY 0 = (-2621440) from rfl]
    go_enter Tryz.func101, Tryz.ntmps101
    go_upto_region 2 with fail
    generalize World.setCell w _ _ = w1 at HK1 ⊢
    clear f0 c0
    obtain ⟨q4, q5, q6, q7, q8, q9, q10, q11, q12, q13⟩ := HK1.out.gs.p0
    obtain ⟨z0, z1, _⟩ := HK1.out.gs.hd
    have f1 := HK1.out.gs.frozen
    go_upto_region 5 with (go_at_call 139; ((with_reducible refine (HT _).mono ?_); rintro e w' ⟨rfl, rfl⟩))
    have HK2 : Hid (Gk w (w1.setCell ⟨b, 1, none⟩ (.int .u32 (nxI s.di))) n b pb { s with p0 := { s.p0 with dn := 0 }, di := nxI s.di } l) := hid (HK1.out.set rfl (by decide) rfl)
    generalize World.setCell w1 _ _ = w2 at HK2 ⊢
    clear q4 q5 q6 q7 q8 q9 q10 q11 q12 q13 z0 z1 f1 HK1
    obtain ⟨q4, q5, q6, q7, q8, q9, q10, q11, q12, q13⟩ := HK2.out.gs.p0
    have f2 := HK2.out.gs.frozen
    have k0 := HK2.out.gs.tab.corn 0 _ rfl
    have k1 := HK2.out.gs.tab.corn 1 _ rfl
    go_region
    have HK3 := hid ((HK2.out.put0 ⟨(-2621440), (-2621440), 0, 0, 0, 3, 0, 0, 0, s.p0.sc⟩).below (Ev.bd1 (Ev.br _)))
    generalize World.drew (World.setCell (World.setCell (World.setCell (World.setCell (World.setCell (World.setCell (World.setCell (World.setCell (World.setCell (World.setCell w2 _ _) _ _) _ _) _ _) _ _) _ _) _ _) _ _) _ _) _ _) = w3 at HK3 ⊢
    clear q4 q5 q6 q7 q8 q9 q10 q11 q12 q13 f2 k0 k1
    go_wp2_with (first
     | (go_at_call 140; ((with_reducible refine (em0 _).mono ?_); rintro e w' ⟨rfl, rfl⟩))
     | (go_at_call 108; ((refine (tl1_6 HK3.out.gs (show -4194304 ≤ ((-2621440) : Int) ∧ ((-2621440) : Int) ≤ 4194304 from by decide)).mono ?_); rintro e w4 ⟨rfl, g4⟩; have HK4 := hid (HK3.out.step g4); clear g4)))
    go_end0
    exact ⟨rfl, HK4.out⟩
  · rw [show cornX 1 = 2621440 from rfl, show cornY 1 = (-2621440) from rfl]
    go_enter Tryz.func101, Tryz.ntmps101
    go_upto_region 2 with fail
    generalize World.setCell w _ _ = w1 at HK1 ⊢
    clear f0 c0
    obtain ⟨q4, q5, q6, q7, q8, q9, q10, q11, q12, q13⟩ := HK1.out.gs.p0
    obtain ⟨z0, z1, _⟩ := HK1.out.gs.hd
    have f1 := HK1.out.gs.frozen
    go_upto_region 5 with (go_at_call 139; ((with_reducible refine (HT _).mono ?_); rintro e w' ⟨rfl, rfl⟩))
    have HK2 : Hid (Gk w (w1.setCell ⟨b, 1, none⟩ (.int .u32 (nxI s.di))) n b pb { s with p0 := { s.p0 with dn := 0 }, di := nxI s.di } l) := hid (HK1.out.set rfl (by decide) rfl)
    generalize World.setCell w1 _ _ = w2 at HK2 ⊢
    clear q4 q5 q6 q7 q8 q9 q10 q11 q12 q13 z0 z1 f1 HK1
    obtain ⟨q4, q5, q6, q7, q8, q9, q10, q11, q12, q13⟩ := HK2.out.gs.p0
    have f2 := HK2.out.gs.frozen
    have k0 := HK2.out.gs.tab.corn 2 _ rfl
    have k1 := HK2.out.gs.tab.corn 3 _ rfl
    go_region
    have HK3 := hid ((HK2.out.put0 ⟨2621440, (-2621440), 0, 0, 0, 3, 0, 0, 0, s.p0.sc⟩).below (Ev.bd1 (Ev.br _)))
    generalize World.drew (World.setCell (World.setCell (World.setCell (World.setCell (World.setCell (World.setCell (World.setCell (World.setCell (World.setCell (World.setCell w2 _ _) _ _) _ _) _ _) _ _) _ _) _ _) _ _) _ _) _ _) = w3 at HK3 ⊢
    clear q4 q5 q6 q7 q8 q9 q10 q11 q12 q13 f2 k0 k1
    go_wp2_with (first
     | (go_at_call 140; ((with_reducible refine (em0 _).mono ?_); rintro e w' ⟨rfl, rfl⟩))
     | (go_at_call 108; ((refine (tl1_6 HK3.out.gs (show -4194304 ≤ (2621440 : Int) ∧ (2621440 : Int) ≤ 4194304 from by decide)).mono ?_); rintro e w4 ⟨rfl, g4⟩; have HK4 := hid (HK3.out.step g4); clear g4)))
    go_end0
    exact ⟨rfl, HK4.out⟩
  · rw [show cornX 2 = (-2621440) from rfl, show cornY 2 = 2621440 from rfl]
    go_enter Tryz.func101, Tryz.ntmps101
    go_upto_region 2 with fail
    generalize World.setCell w _ _ = w1 at HK1 ⊢
    clear f0 c0
    obtain ⟨q4, q5, q6, q7, q8, q9, q10, q11, q12, q13⟩ := HK1.out.gs.p0
    obtain ⟨z0, z1, _⟩ := HK1.out.gs.hd
    have f1 := HK1.out.gs.frozen
    go_upto_region 5 with (go_at_call 139; ((with_reducible refine (HT _).mono ?_); rintro e w' ⟨rfl, rfl⟩))
    have HK2 : Hid (Gk w (w1.setCell ⟨b, 1, none⟩ (.int .u32 (nxI s.di))) n b pb { s with p0 := { s.p0 with dn := 0 }, di := nxI s.di } l) := hid (HK1.out.set rfl (by decide) rfl)
    generalize World.setCell w1 _ _ = w2 at HK2 ⊢
    clear q4 q5 q6 q7 q8 q9 q10 q11 q12 q13 z0 z1 f1 HK1
    obtain ⟨q4, q5, q6, q7, q8, q9, q10, q11, q12, q13⟩ := HK2.out.gs.p0
    have f2 := HK2.out.gs.frozen
    have k0 := HK2.out.gs.tab.corn 4 _ rfl
    have k1 := HK2.out.gs.tab.corn 5 _ rfl
    go_region
    have HK3 := hid ((HK2.out.put0 ⟨(-2621440), 2621440, 0, 0, 0, 3, 0, 0, 0, s.p0.sc⟩).below (Ev.bd1 (Ev.br _)))
    generalize World.drew (World.setCell (World.setCell (World.setCell (World.setCell (World.setCell (World.setCell (World.setCell (World.setCell (World.setCell (World.setCell w2 _ _) _ _) _ _) _ _) _ _) _ _) _ _) _ _) _ _) _ _) = w3 at HK3 ⊢
    clear q4 q5 q6 q7 q8 q9 q10 q11 q12 q13 f2 k0 k1
    go_wp2_with (first
     | (go_at_call 140; ((with_reducible refine (em0 _).mono ?_); rintro e w' ⟨rfl, rfl⟩))
     | (go_at_call 108; ((refine (tl1_6 HK3.out.gs (show -4194304 ≤ ((-2621440) : Int) ∧ ((-2621440) : Int) ≤ 4194304 from by decide)).mono ?_); rintro e w4 ⟨rfl, g4⟩; have HK4 := hid (HK3.out.step g4); clear g4)))
    go_end0
    exact ⟨rfl, HK4.out⟩
  · rw [show cornX 3 = 2621440 from rfl, show cornY 3 = 2621440 from rfl]
    go_enter Tryz.func101, Tryz.ntmps101
    go_upto_region 2 with fail
    generalize World.setCell w _ _ = w1 at HK1 ⊢
    clear f0 c0
    obtain ⟨q4, q5, q6, q7, q8, q9, q10, q11, q12, q13⟩ := HK1.out.gs.p0
    obtain ⟨z0, z1, _⟩ := HK1.out.gs.hd
    have f1 := HK1.out.gs.frozen
    go_upto_region 5 with (go_at_call 139; ((with_reducible refine (HT _).mono ?_); rintro e w' ⟨rfl, rfl⟩))
    have HK2 : Hid (Gk w (w1.setCell ⟨b, 1, none⟩ (.int .u32 (nxI s.di))) n b pb { s with p0 := { s.p0 with dn := 0 }, di := nxI s.di } l) := hid (HK1.out.set rfl (by decide) rfl)
    generalize World.setCell w1 _ _ = w2 at HK2 ⊢
    clear q4 q5 q6 q7 q8 q9 q10 q11 q12 q13 z0 z1 f1 HK1
    obtain ⟨q4, q5, q6, q7, q8, q9, q10, q11, q12, q13⟩ := HK2.out.gs.p0
    have f2 := HK2.out.gs.frozen
    have k0 := HK2.out.gs.tab.corn 6 _ rfl
    have k1 := HK2.out.gs.tab.corn 7 _ rfl
    go_region
    have HK3 := hid ((HK2.out.put0 ⟨2621440, 2621440, 0, 0, 0, 3, 0, 0, 0, s.p0.sc⟩).below (Ev.bd1 (Ev.br _)))
    generalize World.drew (World.setCell (World.setCell (World.setCell (World.setCell (World.setCell (World.setCell (World.setCell (World.setCell (World.setCell (World.setCell w2 _ _) _ _) _ _) _ _) _ _) _ _) _ _) _ _) _ _) _ _) = w3 at HK3 ⊢
    clear q4 q5 q6 q7 q8 q9 q10 q11 q12 q13 f2 k0 k1
    go_wp2_with (first
     | (go_at_call 140; ((with_reducible refine (em0 _).mono ?_); rintro e w' ⟨rfl, rfl⟩))
     | (go_at_call 108; ((refine (tl1_6 HK3.out.gs (show -4194304 ≤ (2621440 : Int) ∧ (2621440 : Int) ≤ 4194304 from by decide)).mono ?_); rintro e w4 ⟨rfl, g4⟩; have HK4 := hid (HK3.out.step g4); clear g4)))
    go_end0
    exact ⟨rfl, HK4.out⟩

set_option maxRecDepth 100000 in
set_option maxHeartbeats 2000000 in
theorem rest1_c {w : World} {n b pb : Nat} {s : St} {l : List Ev} (h : Gs w n b pb s l) (hd : 1 ≤ s.p1.dn ∧ s.p1.dn ≤ 30) (hdi : 0 ≤ s.di ∧ s.di < 4294967296) :
 Calls Tryz.prog 101 #[.pointer (some ⟨b, 0, none⟩), .int .i64 1] w fun e w' => e = .returned (.tuple #[]) ∧ Gk w w' n b pb (restP 1 (s, l)).1 (restP 1 (s, l)).2 := by
 have HK := hid h.gk
 have f0 := h.frozen
 by_cases c : s.p1.dn = 1
 case neg =>
  rw [show restP 1 (s, l) = ({ s with p1 := { s.p1 with dn := s.p1.dn - 1 } }, l) by simp [restP, plS, setP, c]]
  have c1 : 0 < s.p1.dn - 1 := by omega
  obtain ⟨q4, q5, q6, q7, q8, q9, q10, q11, q12, q13⟩ := h.p1
  go_enter Tryz.func101, Tryz.ntmps101
  go_wp2_with fail
  refine bodyPost_ret (results_none rfl _ _ _) rfl ?_
  exact ⟨rfl, HK.out.set rfl (by decide) rfl⟩
 case pos =>
  have hK : ∃ K : Int, Hid (thI (nxI s.di) 4 = K) ∧ (K = 0 ∨ K = 1 ∨ K = 2 ∨ K = 3) := by
   obtain ⟨_, _, t3, t4⟩ := th_bd (nxI s.di) 4 (nx_bd s.di) (by decide)
   exact ⟨_, rfl, by omega⟩
  obtain ⟨K, hK, hk⟩ := hK
  have HT := fun W => throw_c s.di 4 (by decide) W
  rw [hK.out] at HT
  have c0 : w.cell? ⟨b, 22, none⟩ = some (.int .i64 1) := h.p1.2.2.2.2.2.2.2.2.1.trans (by rw [c])
  have HS : Hid (restP 1 (s, l) = ({ s with p1 := ⟨cornX K, cornY K, 0, 0, 0, 3, 0, 0, 0, s.p1.sc⟩, di := nxI s.di }, tel s.fr l 2 6 (cornX K))) := hid (by simp [restP, plS, setP, c, hK.out])
  rw [HS.out]
  clear HS hK
  have HK1 : Hid (Gk w (w.setCell ⟨b, 22, none⟩ (.int .i64 0)) n b pb { s with p1 := { s.p1 with dn := 0 } } l) := hid (HK.out.set rfl (by decide) rfl)
  clear HK hd c
  rcases hk with rfl | rfl | rfl | rfl
  · rw [show cornX 0 = (-2621440) from rfl, show cornY 0 = (-2621440) from rfl]
    go_enter Tryz.func101, Tryz.ntmps101
    go_upto_region 2 with fail
    generalize World.setCell w _ _ = w1 at HK1 ⊢
    clear f0 c0
    obtain ⟨q4, q5, q6, q7, q8, q9, q10, q11, q12, q13⟩ := HK1.out.gs.p1
    obtain ⟨z0, z1, _⟩ := HK1.out.gs.hd
    have f1 := HK1.out.gs.frozen
    go_upto_region 5 with (go_at_call 139; ((with_reducible refine (HT _).mono ?_); rintro e w' ⟨rfl, rfl⟩))
    have HK2 : Hid (Gk w (w1.setCell ⟨b, 1, none⟩ (.int .u32 (nxI s.di))) n b pb { s with p1 := { s.p1 with dn := 0 }, di := nxI s.di } l) := hid (HK1.out.set rfl (by decide) rfl)
    generalize World.setCell w1 _ _ = w2 at HK2 ⊢
    clear q4 q5 q6 q7 q8 q9 q10 q11 q12 q13 z0 z1 f1 HK1
    obtain ⟨q4, q5, q6, q7, q8, q9, q10, q11, q12, q13⟩ := HK2.out.gs.p1
    have f2 := HK2.out.gs.frozen
    have k0 := HK2.out.gs.tab.corn 0 _ rfl
    have k1 := HK2.out.gs.tab.corn 1 _ rfl
    go_region
    have HK3 := hid ((HK2.out.put1 ⟨(-2621440), (-2621440), 0, 0, 0, 3, 0, 0, 0, s.p1.sc⟩).below (Ev.bd1 (Ev.br _)))
    generalize World.drew (World.setCell (World.setCell (World.setCell (World.setCell (World.setCell (World.setCell (World.setCell (World.setCell (World.setCell (World.setCell w2 _ _) _ _) _ _) _ _) _ _) _ _) _ _) _ _) _ _) _ _) = w3 at HK3 ⊢
    clear q4 q5 q6 q7 q8 q9 q10 q11 q12 q13 f2 k0 k1
    go_wp2_with (first
     | (go_at_call 140; ((with_reducible refine (em1 _).mono ?_); rintro e w' ⟨rfl, rfl⟩))
     | (go_at_call 108; ((refine (tl2_6 HK3.out.gs (show -4194304 ≤ ((-2621440) : Int) ∧ ((-2621440) : Int) ≤ 4194304 from by decide)).mono ?_); rintro e w4 ⟨rfl, g4⟩; have HK4 := hid (HK3.out.step g4); clear g4)))
    go_end0
    exact ⟨rfl, HK4.out⟩
  · rw [show cornX 1 = 2621440 from rfl, show cornY 1 = (-2621440) from rfl]
    go_enter Tryz.func101, Tryz.ntmps101
    go_upto_region 2 with fail
    generalize World.setCell w _ _ = w1 at HK1 ⊢
    clear f0 c0
    obtain ⟨q4, q5, q6, q7, q8, q9, q10, q11, q12, q13⟩ := HK1.out.gs.p1
    obtain ⟨z0, z1, _⟩ := HK1.out.gs.hd
    have f1 := HK1.out.gs.frozen
    go_upto_region 5 with (go_at_call 139; ((with_reducible refine (HT _).mono ?_); rintro e w' ⟨rfl, rfl⟩))
    have HK2 : Hid (Gk w (w1.setCell ⟨b, 1, none⟩ (.int .u32 (nxI s.di))) n b pb { s with p1 := { s.p1 with dn := 0 }, di := nxI s.di } l) := hid (HK1.out.set rfl (by decide) rfl)
    generalize World.setCell w1 _ _ = w2 at HK2 ⊢
    clear q4 q5 q6 q7 q8 q9 q10 q11 q12 q13 z0 z1 f1 HK1
    obtain ⟨q4, q5, q6, q7, q8, q9, q10, q11, q12, q13⟩ := HK2.out.gs.p1
    have f2 := HK2.out.gs.frozen
    have k0 := HK2.out.gs.tab.corn 2 _ rfl
    have k1 := HK2.out.gs.tab.corn 3 _ rfl
    go_region
    have HK3 := hid ((HK2.out.put1 ⟨2621440, (-2621440), 0, 0, 0, 3, 0, 0, 0, s.p1.sc⟩).below (Ev.bd1 (Ev.br _)))
    generalize World.drew (World.setCell (World.setCell (World.setCell (World.setCell (World.setCell (World.setCell (World.setCell (World.setCell (World.setCell (World.setCell w2 _ _) _ _) _ _) _ _) _ _) _ _) _ _) _ _) _ _) _ _) = w3 at HK3 ⊢
    clear q4 q5 q6 q7 q8 q9 q10 q11 q12 q13 f2 k0 k1
    go_wp2_with (first
     | (go_at_call 140; ((with_reducible refine (em1 _).mono ?_); rintro e w' ⟨rfl, rfl⟩))
     | (go_at_call 108; ((refine (tl2_6 HK3.out.gs (show -4194304 ≤ (2621440 : Int) ∧ (2621440 : Int) ≤ 4194304 from by decide)).mono ?_); rintro e w4 ⟨rfl, g4⟩; have HK4 := hid (HK3.out.step g4); clear g4)))
    go_end0
    exact ⟨rfl, HK4.out⟩
  · rw [show cornX 2 = (-2621440) from rfl, show cornY 2 = 2621440 from rfl]
    go_enter Tryz.func101, Tryz.ntmps101
    go_upto_region 2 with fail
    generalize World.setCell w _ _ = w1 at HK1 ⊢
    clear f0 c0
    obtain ⟨q4, q5, q6, q7, q8, q9, q10, q11, q12, q13⟩ := HK1.out.gs.p1
    obtain ⟨z0, z1, _⟩ := HK1.out.gs.hd
    have f1 := HK1.out.gs.frozen
    go_upto_region 5 with (go_at_call 139; ((with_reducible refine (HT _).mono ?_); rintro e w' ⟨rfl, rfl⟩))
    have HK2 : Hid (Gk w (w1.setCell ⟨b, 1, none⟩ (.int .u32 (nxI s.di))) n b pb { s with p1 := { s.p1 with dn := 0 }, di := nxI s.di } l) := hid (HK1.out.set rfl (by decide) rfl)
    generalize World.setCell w1 _ _ = w2 at HK2 ⊢
    clear q4 q5 q6 q7 q8 q9 q10 q11 q12 q13 z0 z1 f1 HK1
    obtain ⟨q4, q5, q6, q7, q8, q9, q10, q11, q12, q13⟩ := HK2.out.gs.p1
    have f2 := HK2.out.gs.frozen
    have k0 := HK2.out.gs.tab.corn 4 _ rfl
    have k1 := HK2.out.gs.tab.corn 5 _ rfl
    go_region
    have HK3 := hid ((HK2.out.put1 ⟨(-2621440), 2621440, 0, 0, 0, 3, 0, 0, 0, s.p1.sc⟩).below (Ev.bd1 (Ev.br _)))
    generalize World.drew (World.setCell (World.setCell (World.setCell (World.setCell (World.setCell (World.setCell (World.setCell (World.setCell (World.setCell (World.setCell w2 _ _) _ _) _ _) _ _) _ _) _ _) _ _) _ _) _ _) _ _) = w3 at HK3 ⊢
    clear q4 q5 q6 q7 q8 q9 q10 q11 q12 q13 f2 k0 k1
    go_wp2_with (first
     | (go_at_call 140; ((with_reducible refine (em1 _).mono ?_); rintro e w' ⟨rfl, rfl⟩))
     | (go_at_call 108; ((refine (tl2_6 HK3.out.gs (show -4194304 ≤ ((-2621440) : Int) ∧ ((-2621440) : Int) ≤ 4194304 from by decide)).mono ?_); rintro e w4 ⟨rfl, g4⟩; have HK4 := hid (HK3.out.step g4); clear g4)))
    go_end0
    exact ⟨rfl, HK4.out⟩
  · rw [show cornX 3 = 2621440 from rfl, show cornY 3 = 2621440 from rfl]
    go_enter Tryz.func101, Tryz.ntmps101
    go_upto_region 2 with fail
    generalize World.setCell w _ _ = w1 at HK1 ⊢
    clear f0 c0
    obtain ⟨q4, q5, q6, q7, q8, q9, q10, q11, q12, q13⟩ := HK1.out.gs.p1
    obtain ⟨z0, z1, _⟩ := HK1.out.gs.hd
    have f1 := HK1.out.gs.frozen
    go_upto_region 5 with (go_at_call 139; ((with_reducible refine (HT _).mono ?_); rintro e w' ⟨rfl, rfl⟩))
    have HK2 : Hid (Gk w (w1.setCell ⟨b, 1, none⟩ (.int .u32 (nxI s.di))) n b pb { s with p1 := { s.p1 with dn := 0 }, di := nxI s.di } l) := hid (HK1.out.set rfl (by decide) rfl)
    generalize World.setCell w1 _ _ = w2 at HK2 ⊢
    clear q4 q5 q6 q7 q8 q9 q10 q11 q12 q13 z0 z1 f1 HK1
    obtain ⟨q4, q5, q6, q7, q8, q9, q10, q11, q12, q13⟩ := HK2.out.gs.p1
    have f2 := HK2.out.gs.frozen
    have k0 := HK2.out.gs.tab.corn 6 _ rfl
    have k1 := HK2.out.gs.tab.corn 7 _ rfl
    go_region
    have HK3 := hid ((HK2.out.put1 ⟨2621440, 2621440, 0, 0, 0, 3, 0, 0, 0, s.p1.sc⟩).below (Ev.bd1 (Ev.br _)))
    generalize World.drew (World.setCell (World.setCell (World.setCell (World.setCell (World.setCell (World.setCell (World.setCell (World.setCell (World.setCell (World.setCell w2 _ _) _ _) _ _) _ _) _ _) _ _) _ _) _ _) _ _) _ _) = w3 at HK3 ⊢
    clear q4 q5 q6 q7 q8 q9 q10 q11 q12 q13 f2 k0 k1
    go_wp2_with (first
     | (go_at_call 140; ((with_reducible refine (em1 _).mono ?_); rintro e w' ⟨rfl, rfl⟩))
     | (go_at_call 108; ((refine (tl2_6 HK3.out.gs (show -4194304 ≤ (2621440 : Int) ∧ (2621440 : Int) ≤ 4194304 from by decide)).mono ?_); rintro e w4 ⟨rfl, g4⟩; have HK4 := hid (HK3.out.step g4); clear g4)))
    go_end0
    exact ⟨rfl, HK4.out⟩

end Go.Proofs.YtfclnhmijjlhdaaGreatDoor.Gm

namespace Go.Proofs.YtfclnhmijjlhdaaGreatDoor.Gm
open Go.RowKit Go.Proofs.YtfclnhmijjlhdaaGreatDoor.Fx Go.Proofs.YtfclnhmijjlhdaaGreatDoor.Tg Go.Proofs.YtfclnhmijjlhdaaGreatDoor.Dc
open Go.Proofs.YtfclnhmijjlhdaaGreatDoor.Ev (Ev Ky addR pageI At ecs Pg Evs)
open Go.Proofs.YtfclnhmijjlhdaaGreatDoor.Sh (In32 vec box insideB touchB slI mvP mvV wallI)
set_option linter.unusedVariables false

theorem wave320 (x : Int) : In32 (waveI x) := by have := wave_bd x; unfold In32; omega
/-- what a drive needs of a player. -/
structure Dr0 (s : St) (P : Pl) : Prop where
 ax : P.ax = s.p0.ax
 ay : P.ay = s.p0.ay
 fa : P.fa = s.p0.fa
 wi : P.wi = s.p0.wi
 vx : In32 P.vx
 vy : In32 P.vy

set_option maxRecDepth 100000 in
set_option maxHeartbeats 2000000 in
theorem drive0_c {w : World} {n b pb : Nat} {s : St} {l : List Ev} (a : Int) (h : Gs w n b pb s l) (ha : 0 ≤ a ∧ a ≤ 63) (hx : -4194304 ≤ s.p0.ax ∧ s.p0.ax ≤ 4194304) (hv : In32 s.p0.vx ∧ In32 s.p0.vy) (hw : 0 ≤ s.p0.wi ∧ s.p0.wi ≤ 20) (hf : 0 ≤ s.fr) :
 Calls Tryz.prog 104 #[.pointer (some ⟨b, 0, none⟩), .int .i64 0, .int .u8 a] w fun e w' => e = .returned (.tuple #[]) ∧ Gk w w' n b pb { s with p0 := (driveP s.fr 1 a (s.p0, l)).1 } (driveP s.fr 1 a (s.p0, l)).2 := by
 have HK := hid h.gk
 obtain ⟨_, _, b4, b8, _, b32⟩ := bits_of ha
 have HB4 := hid b4
 have HB32 := hid b32
 clear b4 b32
 obtain ⟨q4, q5, q6, q7, q8, q9, q10, q11, q12, q13⟩ := h.p0
 go_enter Tryz.func104, Tryz.ntmps104
 go_upto_region 2 with (go_at_call 141; ((with_reducible refine (heading_c _ _).mono ?_); rintro e w1 ⟨rfl, g1⟩; have HK1 := hid (HK.out.below g1)))
 have HA := hid (At.new w1 #[.int .i32 (waveI (s.p0.fa + 16384)), .int .i32 (waveI s.p0.fa)] 57)
 have HK2 := hid (HK1.out.below (Ev.bal (Ev.br w1) (.cells #[.int .i32 (waveI (s.p0.fa + 16384)), .int .i32 (waveI s.p0.fa)] 57)))
 generalize World.alloc w1 _ = w2 at HA HK2 ⊢
 generalize w1.heap.size = C at HA ⊢
 clear HK1 g1 q4 q5 q6 q7 q8 q9 q10 q11 q12 q13
 go_upto_if 21 with fail
 go_cut [6] (fun s6 wx => s6 = .pointer (some ⟨b, 4, none⟩) ∧ Gk w wx n b pb { s with p0 := brakeP a s.p0 } l ∧ At wx C #[.int .i32 (waveI (s.p0.fa + 16384)), .int .i32 (waveI s.p0.fa)] 57)
 case first =>
  have e8 : a / 8 % 2 = 0 ∨ a / 8 % 2 = 1 := by omega
  rcases e8 with e8 | e8
  · have hb : (8 * (a / 8 % 2) != 0) = false := by rw [e8]; rfl
    go_wp2_with fail
    go_meet
    case rel =>
     rw [show brakeP a s.p0 = s.p0 by simp [brakeP, e8]]
     exact ⟨rfl, HK2.out, HA.out⟩
  · have hb : (8 * (a / 8 % 2) != 0) = true := by rw [e8]; rfl
    obtain ⟨q4, q5, q6, q7, q8, q9, q10, q11, q12, q13⟩ := HK2.out.gs.p0
    go_wp2_with (go_at_call 142; ((with_reducible refine (Sh.vscale_c _ _ _ hv.1 hv.2 (by decide) _).mono ?_); rintro e w3 ⟨rfl, g3⟩; have HK3 := hid (HK2.out.below g3); have HA3 := hid (HA.out.below g3); obtain ⟨q4, q5, q6, q7, q8, q9, q10, q11, q12, q13⟩ := HK3.out.gs.p0; have f3 := HK3.out.gs.frozen))
    go_meet
    case rel =>
     rw [show brakeP a s.p0 = { s.p0 with vx := satI (s.p0.vx * 32768 / 65536), vy := satI (s.p0.vy * 32768 / 65536) } by simp [brakeP, e8]]
     exact ⟨rfl, (HK3.out.set (j := 6) (s' := { s with p0 := { s.p0 with vx := satI (s.p0.vx * 32768 / 65536) } }) rfl (by decide) rfl).set (j := 7) rfl (by decide) rfl, (HA3.out.far (HK3.out.gs.ne HA3.out (by decide)) _).far (HK3.out.gs.ne HA3.out (by decide)) _⟩
 case rest =>
  obtain ⟨rfl, hK, hA⟩ := hcut
  have hD : Dr0 s (brakeP a s.p0) := by
   unfold brakeP
   split
   · exact ⟨rfl, rfl, rfl, rfl, sat_bd _, sat_bd _⟩
   · exact ⟨rfl, rfl, rfl, rfl, hv.1, hv.2⟩
  have HR : Hid (driveP s.fr 1 a (s.p0, l) = dashP s.fr 1 a (thrustP s.fr 1 a (brakeP a s.p0, l))) := hid rfl
  generalize brakeP a s.p0 = P at hK hD HR
  have HK3 := hid hK
  have HA3 := hid hA
  have HD := hid hD
  clear hK hA hD HK2 HA HK b8
  have b4 := HB4.out
  go_upto_if 32 with fail
  go_cut [6] (fun s6 wx => s6 = .pointer (some ⟨b, 4, none⟩) ∧ Gk w wx n b pb { s with p0 := (thrustP s.fr 1 a (P, l)).1 } (thrustP s.fr 1 a (P, l)).2 ∧ At wx C #[.int .i32 (waveI (s.p0.fa + 16384)), .int .i32 (waveI s.p0.fa)] 57)
  case first =>
   have e4 : a / 4 % 2 = 0 ∨ a / 4 % 2 = 1 := by omega
   rcases e4 with e4 | e4
   · have hb : (4 * (a / 4 % 2) != 0) = false := by rw [e4]; rfl
     go_wp2_with fail
     go_meet
     case rel =>
      rw [show thrustP s.fr 1 a (P, l) = (P, l) by simp [thrustP, e4]]
      exact ⟨rfl, HK3.out, HA3.out⟩
   · have hb : (4 * (a / 4 % 2) != 0) = true := by rw [e4]; rfl
     have hA0 := HA3.out.two
     obtain ⟨w0, w1⟩ := hA0
     obtain ⟨q4, q5, q6, q7, q8, q9, q10, q11, q12, q13⟩ := HK3.out.gs.p0
     dsimp only at q4 q5 q6 q7 q8 q9 q10 q11 q12 q13
     go_upto_region 5 with fail
     have HKd := hid (HK3.out.below (Ev.bd1 (Ev.br _)))
     have HAd := hid (HA3.out.below (Ev.bd1 (Ev.br _)))
     go_cut [6] (fun s6 wx => s6 = .pointer (some ⟨b, 4, none⟩) ∧ Gk w wx n b pb { s with p0 := boostP 8192 P } l ∧ At wx C #[.int .i32 (waveI (s.p0.fa + 16384)), .int .i32 (waveI s.p0.fa)] 57)
     case first =>
      go_region_with (first
       | (go_at_call 142; ((with_reducible refine (Sh.vscale_c _ _ _ (wave320 _) (wave320 _) (by decide) _).mono ?_); rintro e w3 ⟨rfl, g3⟩; have HK4 := hid (HKd.out.below g3); have HA4 := hid (HAd.out.below g3); obtain ⟨q4, q5, q6, q7, q8, q9, q10, q11, q12, q13⟩ := HK4.out.gs.p0))
       | (go_at_call 109; ((with_reducible refine (Sh.vadd_c _ _ _ _ HD.out.vx HD.out.vy (sat_bd _) (sat_bd _) _).mono ?_); rintro e w4 ⟨rfl, g4⟩; have HK5 := hid (HK4.out.below g4); have HA5 := hid (HA4.out.below g4); obtain ⟨q4, q5, q6, q7, q8, q9, q10, q11, q12, q13⟩ := HK5.out.gs.p0; have f5 := HK5.out.gs.frozen)))
      all_goals
       go_wp2_with fail
       go_meet
       case rel =>
        rw [show boostP 8192 P = { P with vx := satI (P.vx + satI (waveI (s.p0.fa + 16384) * 8192 / 65536)), vy := satI (P.vy + satI (waveI s.p0.fa * 8192 / 65536)) } by simp [boostP, wayX, wayY, HD.out.fa]]
        exact ⟨rfl, (HK5.out.set (j := 6) (s' := { s with p0 := { P with vx := satI (P.vx + satI (waveI (s.p0.fa + 16384) * 8192 / 65536)) } }) rfl (by decide) rfl).set (j := 7) rfl (by decide) rfl, (HA5.out.far (HK5.out.gs.ne HA5.out (by decide)) _).far (HK5.out.gs.ne HA5.out (by decide)) _⟩
     case rest =>
      obtain ⟨rfl, hK, hA⟩ := hcut
      have HK6 := hid hK
      have HA6 := hid hA
      have hxP : -4194304 ≤ P.ax ∧ P.ax ≤ 4194304 := by rw [HD.out.ax]; exact hx
      clear hK hA HKd HAd q4 q5 q6 q7 q8 q9 q10 q11 q12 q13 w0 w1
      obtain ⟨z0, _⟩ := HK6.out.gs.hd
      dsimp only at z0
      by_cases f8 : s.fr % 8 = 0
      · have hRR : thrustP s.fr 1 a (P, l) = (boostP 8192 P, tel s.fr l 1 8 P.ax) := by simp [thrustP, e4, f8]
        go_wp2_with (first
         | (go_at_call 140; ((with_reducible refine (em0 _).mono ?_); rintro e w' ⟨rfl, rfl⟩))
         | (go_at_call 108; ((refine (tl1_8 HK6.out.gs hxP).mono ?_); rintro e w5 ⟨rfl, g5⟩; have HK7 := hid (HK6.out.step g5); have HA7 := hid (g5.at HA6.out (by decide) (by decide) (by decide)); clear g5)))
        go_meet
        case rel =>
         rw [hRR]
         exact ⟨rfl, HK7.out, HA7.out⟩
      · have hRR : thrustP s.fr 1 a (P, l) = (boostP 8192 P, l) := by simp [thrustP, e4, f8]
        go_wp2_with fail
        go_meet
        case rel =>
         rw [hRR]
         exact ⟨rfl, HK6.out, HA6.out⟩
  case rest =>
   obtain ⟨rfl, hK, hA⟩ := hcut
   have hD : Dr0 s (thrustP s.fr 1 a (P, l)).1 := by
    unfold thrustP
    split
    · exact ⟨HD.out.ax, HD.out.ay, HD.out.fa, HD.out.wi, sat_bd _, sat_bd _⟩
    · exact HD.out
   generalize thrustP s.fr 1 a (P, l) = R at hK hD HR
   obtain ⟨P2, l2⟩ := R
   dsimp only at hK hD
   have HK8 := hid hK
   have HA8 := hid hA
   have HE := hid hD
   clear hK hA hD HK3 HA3 b4
   have b32 := HB32.out
   have e5 : a / 32 % 2 = 0 ∨ (a / 32 % 2 = 1 ∧ P2.wi = 0) ∨ (a / 32 % 2 = 1 ∧ ¬ P2.wi = 0) := by omega
   obtain ⟨w0, w1⟩ := HA8.out.two
   obtain ⟨q4, q5, q6, q7, q8, q9, q10, q11, q12, q13⟩ := HK8.out.gs.p0
   dsimp only at q4 q5 q6 q7 q8 q9 q10 q11 q12 q13
   rcases e5 with e5 | ⟨e5, e6⟩ | ⟨e5, e6⟩
   · have hb : (32 * (a / 32 % 2) != 0) = false := by rw [e5]; rfl
     have hRR : dashP s.fr 1 a (P2, l2) = (P2, l2) := by simp [dashP, e5]
     go_wp2_with fail
     go_end0
     exact ⟨rfl, by rw [HR.out, hRR]; exact HK8.out⟩
   · have hb : (32 * (a / 32 % 2) != 0) = true := by rw [e5]; rfl
     have hRR : dashP s.fr 1 a (P2, l2) = ({ boostP 65536 P2 with wi := 20 }, tel s.fr l2 1 9 P2.ax) := by simp [dashP, e5, e6]
     go_upto_region 9 with fail
     have HKd := hid (HK8.out.below (Ev.bd1 (Ev.br _)))
     have HAd := hid (HA8.out.below (Ev.bd1 (Ev.br _)))
     go_cut [6] (fun s6 wx => s6 = .pointer (some ⟨b, 4, none⟩) ∧ Gk w wx n b pb { s with p0 := boostP 65536 P2 } l2 ∧ At wx C #[.int .i32 (waveI (s.p0.fa + 16384)), .int .i32 (waveI s.p0.fa)] 57)
     case first =>
      go_region_with (first
       | (go_at_call 142; ((with_reducible refine (Sh.vscale_c _ _ _ (wave320 _) (wave320 _) (by decide) _).mono ?_); rintro e w3 ⟨rfl, g3⟩; have HK4 := hid (HKd.out.below g3); have HA4 := hid (HAd.out.below g3); obtain ⟨q4, q5, q6, q7, q8, q9, q10, q11, q12, q13⟩ := HK4.out.gs.p0))
       | (go_at_call 109; ((with_reducible refine (Sh.vadd_c _ _ _ _ HE.out.vx HE.out.vy (sat_bd _) (sat_bd _) _).mono ?_); rintro e w4 ⟨rfl, g4⟩; have HK5 := hid (HK4.out.below g4); have HA5 := hid (HA4.out.below g4); obtain ⟨q4, q5, q6, q7, q8, q9, q10, q11, q12, q13⟩ := HK5.out.gs.p0; have f5 := HK5.out.gs.frozen)))
      all_goals
       go_wp2_with fail
       go_meet
       case rel =>
        rw [show boostP 65536 P2 = { P2 with vx := satI (P2.vx + satI (waveI (s.p0.fa + 16384))), vy := satI (P2.vy + satI (waveI s.p0.fa)) } by simp [boostP, wayX, wayY, HE.out.fa]]
        exact ⟨rfl, (HK5.out.set (j := 6) (s' := { s with p0 := { P2 with vx := satI (P2.vx + satI (waveI (s.p0.fa + 16384))) } }) rfl (by decide) rfl).set (j := 7) rfl (by decide) rfl, (HA5.out.far (HK5.out.gs.ne HA5.out (by decide)) _).far (HK5.out.gs.ne HA5.out (by decide)) _⟩
     case rest =>
      obtain ⟨rfl, hK, hA⟩ := hcut
      have HK9 := hid hK
      have hxP : -4194304 ≤ P2.ax ∧ P2.ax ≤ 4194304 := by rw [HE.out.ax]; exact hx
      clear hK hA HKd HAd q4 q5 q6 q7 q8 q9 q10 q11 q12 q13 w0 w1
      obtain ⟨q4, q5, q6, q7, q8, q9, q10, q11, q12, q13⟩ := HK9.out.gs.p0
      have f9 := HK9.out.gs.frozen
      go_upto_region 11 with fail
      have HKA : Hid (Gk w (wc.setCell ⟨b, 11, none⟩ (.int .i64 20)) n b pb { s with p0 := { boostP 65536 P2 with wi := 20 } } l2) := hid (HK9.out.set rfl (by decide) rfl)
      generalize World.setCell wc _ _ = wd at HKA ⊢
      go_wp2_with (first
       | (go_at_call 140; ((with_reducible refine (em0 _).mono ?_); rintro e w' ⟨rfl, rfl⟩))
       | (go_at_call 108; ((refine (tl1_9 HKA.out.gs hxP).mono ?_); rintro e w5 ⟨rfl, g5⟩; have HKB := hid (HKA.out.step g5); clear g5)))
      go_end0
      exact ⟨rfl, by rw [HR.out, hRR]; exact HKB.out⟩
   · have hb : (32 * (a / 32 % 2) != 0) = true := by rw [e5]; rfl
     have hb2 : (P2.wi == 0) = false := by simp [e6]
     have hRR : dashP s.fr 1 a (P2, l2) = (P2, l2) := by simp [dashP, e6]
     go_wp2_with fail
     go_end0
     exact ⟨rfl, by rw [HR.out, hRR]; exact HK8.out⟩

end Go.Proofs.YtfclnhmijjlhdaaGreatDoor.Gm

namespace Go.Proofs.YtfclnhmijjlhdaaGreatDoor.Gm
open Go.RowKit Go.Proofs.YtfclnhmijjlhdaaGreatDoor.Fx Go.Proofs.YtfclnhmijjlhdaaGreatDoor.Tg Go.Proofs.YtfclnhmijjlhdaaGreatDoor.Dc
open Go.Proofs.YtfclnhmijjlhdaaGreatDoor.Ev (Ev Ky addR pageI At ecs Pg Evs)
open Go.Proofs.YtfclnhmijjlhdaaGreatDoor.Sh (In32 vec box insideB touchB slI mvP mvV wallI)
set_option linter.unusedVariables false

theorem wave321 (x : Int) : In32 (waveI x) := by have := wave_bd x; unfold In32; omega
/-- what a drive needs of a player. -/
structure Dr1 (s : St) (P : Pl) : Prop where
 ax : P.ax = s.p1.ax
 ay : P.ay = s.p1.ay
 fa : P.fa = s.p1.fa
 wi : P.wi = s.p1.wi
 vx : In32 P.vx
 vy : In32 P.vy

set_option maxRecDepth 100000 in
set_option maxHeartbeats 2000000 in
theorem drive1_c {w : World} {n b pb : Nat} {s : St} {l : List Ev} (a : Int) (h : Gs w n b pb s l) (ha : 0 ≤ a ∧ a ≤ 63) (hx : -4194304 ≤ s.p1.ax ∧ s.p1.ax ≤ 4194304) (hv : In32 s.p1.vx ∧ In32 s.p1.vy) (hw : 0 ≤ s.p1.wi ∧ s.p1.wi ≤ 20) (hf : 0 ≤ s.fr) :
 Calls Tryz.prog 104 #[.pointer (some ⟨b, 0, none⟩), .int .i64 1, .int .u8 a] w fun e w' => e = .returned (.tuple #[]) ∧ Gk w w' n b pb { s with p1 := (driveP s.fr 2 a (s.p1, l)).1 } (driveP s.fr 2 a (s.p1, l)).2 := by
 have HK := hid h.gk
 obtain ⟨_, _, b4, b8, _, b32⟩ := bits_of ha
 have HB4 := hid b4
 have HB32 := hid b32
 clear b4 b32
 obtain ⟨q4, q5, q6, q7, q8, q9, q10, q11, q12, q13⟩ := h.p1
 go_enter Tryz.func104, Tryz.ntmps104
 go_upto_region 2 with (go_at_call 141; ((with_reducible refine (heading_c _ _).mono ?_); rintro e w1 ⟨rfl, g1⟩; have HK1 := hid (HK.out.below g1)))
 have HA := hid (At.new w1 #[.int .i32 (waveI (s.p1.fa + 16384)), .int .i32 (waveI s.p1.fa)] 57)
 have HK2 := hid (HK1.out.below (Ev.bal (Ev.br w1) (.cells #[.int .i32 (waveI (s.p1.fa + 16384)), .int .i32 (waveI s.p1.fa)] 57)))
 generalize World.alloc w1 _ = w2 at HA HK2 ⊢
 generalize w1.heap.size = C at HA ⊢
 clear HK1 g1 q4 q5 q6 q7 q8 q9 q10 q11 q12 q13
 go_upto_if 21 with fail
 go_cut [6] (fun s6 wx => s6 = .pointer (some ⟨b, 14, none⟩) ∧ Gk w wx n b pb { s with p1 := brakeP a s.p1 } l ∧ At wx C #[.int .i32 (waveI (s.p1.fa + 16384)), .int .i32 (waveI s.p1.fa)] 57)
 case first =>
  have e8 : a / 8 % 2 = 0 ∨ a / 8 % 2 = 1 := by omega
  rcases e8 with e8 | e8
  · have hb : (8 * (a / 8 % 2) != 0) = false := by rw [e8]; rfl
    go_wp2_with fail
    go_meet
    case rel =>
     rw [show brakeP a s.p1 = s.p1 by simp [brakeP, e8]]
     exact ⟨rfl, HK2.out, HA.out⟩
  · have hb : (8 * (a / 8 % 2) != 0) = true := by rw [e8]; rfl
    obtain ⟨q4, q5, q6, q7, q8, q9, q10, q11, q12, q13⟩ := HK2.out.gs.p1
    go_wp2_with (go_at_call 142; ((with_reducible refine (Sh.vscale_c _ _ _ hv.1 hv.2 (by decide) _).mono ?_); rintro e w3 ⟨rfl, g3⟩; have HK3 := hid (HK2.out.below g3); have HA3 := hid (HA.out.below g3); obtain ⟨q4, q5, q6, q7, q8, q9, q10, q11, q12, q13⟩ := HK3.out.gs.p1; have f3 := HK3.out.gs.frozen))
    go_meet
    case rel =>
     rw [show brakeP a s.p1 = { s.p1 with vx := satI (s.p1.vx * 32768 / 65536), vy := satI (s.p1.vy * 32768 / 65536) } by simp [brakeP, e8]]
     exact ⟨rfl, (HK3.out.set (j := 16) (s' := { s with p1 := { s.p1 with vx := satI (s.p1.vx * 32768 / 65536) } }) rfl (by decide) rfl).set (j := 17) rfl (by decide) rfl, (HA3.out.far (HK3.out.gs.ne HA3.out (by decide)) _).far (HK3.out.gs.ne HA3.out (by decide)) _⟩
 case rest =>
  obtain ⟨rfl, hK, hA⟩ := hcut
  have hD : Dr1 s (brakeP a s.p1) := by
   unfold brakeP
   split
   · exact ⟨rfl, rfl, rfl, rfl, sat_bd _, sat_bd _⟩
   · exact ⟨rfl, rfl, rfl, rfl, hv.1, hv.2⟩
  have HR : Hid (driveP s.fr 2 a (s.p1, l) = dashP s.fr 2 a (thrustP s.fr 2 a (brakeP a s.p1, l))) := hid rfl
  generalize brakeP a s.p1 = P at hK hD HR
  have HK3 := hid hK
  have HA3 := hid hA
  have HD := hid hD
  clear hK hA hD HK2 HA HK b8
  have b4 := HB4.out
  go_upto_if 32 with fail
  go_cut [6] (fun s6 wx => s6 = .pointer (some ⟨b, 14, none⟩) ∧ Gk w wx n b pb { s with p1 := (thrustP s.fr 2 a (P, l)).1 } (thrustP s.fr 2 a (P, l)).2 ∧ At wx C #[.int .i32 (waveI (s.p1.fa + 16384)), .int .i32 (waveI s.p1.fa)] 57)
  case first =>
   have e4 : a / 4 % 2 = 0 ∨ a / 4 % 2 = 1 := by omega
   rcases e4 with e4 | e4
   · have hb : (4 * (a / 4 % 2) != 0) = false := by rw [e4]; rfl
     go_wp2_with fail
     go_meet
     case rel =>
      rw [show thrustP s.fr 2 a (P, l) = (P, l) by simp [thrustP, e4]]
      exact ⟨rfl, HK3.out, HA3.out⟩
   · have hb : (4 * (a / 4 % 2) != 0) = true := by rw [e4]; rfl
     have hA0 := HA3.out.two
     obtain ⟨w0, w1⟩ := hA0
     obtain ⟨q4, q5, q6, q7, q8, q9, q10, q11, q12, q13⟩ := HK3.out.gs.p1
     dsimp only at q4 q5 q6 q7 q8 q9 q10 q11 q12 q13
     go_upto_region 5 with fail
     have HKd := hid (HK3.out.below (Ev.bd1 (Ev.br _)))
     have HAd := hid (HA3.out.below (Ev.bd1 (Ev.br _)))
     go_cut [6] (fun s6 wx => s6 = .pointer (some ⟨b, 14, none⟩) ∧ Gk w wx n b pb { s with p1 := boostP 8192 P } l ∧ At wx C #[.int .i32 (waveI (s.p1.fa + 16384)), .int .i32 (waveI s.p1.fa)] 57)
     case first =>
      go_region_with (first
       | (go_at_call 142; ((with_reducible refine (Sh.vscale_c _ _ _ (wave321 _) (wave321 _) (by decide) _).mono ?_); rintro e w3 ⟨rfl, g3⟩; have HK4 := hid (HKd.out.below g3); have HA4 := hid (HAd.out.below g3); obtain ⟨q4, q5, q6, q7, q8, q9, q10, q11, q12, q13⟩ := HK4.out.gs.p1))
       | (go_at_call 109; ((with_reducible refine (Sh.vadd_c _ _ _ _ HD.out.vx HD.out.vy (sat_bd _) (sat_bd _) _).mono ?_); rintro e w4 ⟨rfl, g4⟩; have HK5 := hid (HK4.out.below g4); have HA5 := hid (HA4.out.below g4); obtain ⟨q4, q5, q6, q7, q8, q9, q10, q11, q12, q13⟩ := HK5.out.gs.p1; have f5 := HK5.out.gs.frozen)))
      all_goals
       go_wp2_with fail
       go_meet
       case rel =>
        rw [show boostP 8192 P = { P with vx := satI (P.vx + satI (waveI (s.p1.fa + 16384) * 8192 / 65536)), vy := satI (P.vy + satI (waveI s.p1.fa * 8192 / 65536)) } by simp [boostP, wayX, wayY, HD.out.fa]]
        exact ⟨rfl, (HK5.out.set (j := 16) (s' := { s with p1 := { P with vx := satI (P.vx + satI (waveI (s.p1.fa + 16384) * 8192 / 65536)) } }) rfl (by decide) rfl).set (j := 17) rfl (by decide) rfl, (HA5.out.far (HK5.out.gs.ne HA5.out (by decide)) _).far (HK5.out.gs.ne HA5.out (by decide)) _⟩
     case rest =>
      obtain ⟨rfl, hK, hA⟩ := hcut
      have HK6 := hid hK
      have HA6 := hid hA
      have hxP : -4194304 ≤ P.ax ∧ P.ax ≤ 4194304 := by rw [HD.out.ax]; exact hx
      clear hK hA HKd HAd q4 q5 q6 q7 q8 q9 q10 q11 q12 q13 w0 w1
      obtain ⟨z0, _⟩ := HK6.out.gs.hd
      dsimp only at z0
      by_cases f8 : s.fr % 8 = 0
      · have hRR : thrustP s.fr 2 a (P, l) = (boostP 8192 P, tel s.fr l 2 8 P.ax) := by simp [thrustP, e4, f8]
        go_wp2_with (first
         | (go_at_call 140; ((with_reducible refine (em1 _).mono ?_); rintro e w' ⟨rfl, rfl⟩))
         | (go_at_call 108; ((refine (tl2_8 HK6.out.gs hxP).mono ?_); rintro e w5 ⟨rfl, g5⟩; have HK7 := hid (HK6.out.step g5); have HA7 := hid (g5.at HA6.out (by decide) (by decide) (by decide)); clear g5)))
        go_meet
        case rel =>
         rw [hRR]
         exact ⟨rfl, HK7.out, HA7.out⟩
      · have hRR : thrustP s.fr 2 a (P, l) = (boostP 8192 P, l) := by simp [thrustP, e4, f8]
        go_wp2_with fail
        go_meet
        case rel =>
         rw [hRR]
         exact ⟨rfl, HK6.out, HA6.out⟩
  case rest =>
   obtain ⟨rfl, hK, hA⟩ := hcut
   have hD : Dr1 s (thrustP s.fr 2 a (P, l)).1 := by
    unfold thrustP
    split
    · exact ⟨HD.out.ax, HD.out.ay, HD.out.fa, HD.out.wi, sat_bd _, sat_bd _⟩
    · exact HD.out
   generalize thrustP s.fr 2 a (P, l) = R at hK hD HR
   obtain ⟨P2, l2⟩ := R
   dsimp only at hK hD
   have HK8 := hid hK
   have HA8 := hid hA
   have HE := hid hD
   clear hK hA hD HK3 HA3 b4
   have b32 := HB32.out
   have e5 : a / 32 % 2 = 0 ∨ (a / 32 % 2 = 1 ∧ P2.wi = 0) ∨ (a / 32 % 2 = 1 ∧ ¬ P2.wi = 0) := by omega
   obtain ⟨w0, w1⟩ := HA8.out.two
   obtain ⟨q4, q5, q6, q7, q8, q9, q10, q11, q12, q13⟩ := HK8.out.gs.p1
   dsimp only at q4 q5 q6 q7 q8 q9 q10 q11 q12 q13
   rcases e5 with e5 | ⟨e5, e6⟩ | ⟨e5, e6⟩
   · have hb : (32 * (a / 32 % 2) != 0) = false := by rw [e5]; rfl
     have hRR : dashP s.fr 2 a (P2, l2) = (P2, l2) := by simp [dashP, e5]
     go_wp2_with fail
     go_end0
     exact ⟨rfl, by rw [HR.out, hRR]; exact HK8.out⟩
   · have hb : (32 * (a / 32 % 2) != 0) = true := by rw [e5]; rfl
     have hRR : dashP s.fr 2 a (P2, l2) = ({ boostP 65536 P2 with wi := 20 }, tel s.fr l2 2 9 P2.ax) := by simp [dashP, e5, e6]
     go_upto_region 9 with fail
     have HKd := hid (HK8.out.below (Ev.bd1 (Ev.br _)))
     have HAd := hid (HA8.out.below (Ev.bd1 (Ev.br _)))
     go_cut [6] (fun s6 wx => s6 = .pointer (some ⟨b, 14, none⟩) ∧ Gk w wx n b pb { s with p1 := boostP 65536 P2 } l2 ∧ At wx C #[.int .i32 (waveI (s.p1.fa + 16384)), .int .i32 (waveI s.p1.fa)] 57)
     case first =>
      go_region_with (first
       | (go_at_call 142; ((with_reducible refine (Sh.vscale_c _ _ _ (wave321 _) (wave321 _) (by decide) _).mono ?_); rintro e w3 ⟨rfl, g3⟩; have HK4 := hid (HKd.out.below g3); have HA4 := hid (HAd.out.below g3); obtain ⟨q4, q5, q6, q7, q8, q9, q10, q11, q12, q13⟩ := HK4.out.gs.p1))
       | (go_at_call 109; ((with_reducible refine (Sh.vadd_c _ _ _ _ HE.out.vx HE.out.vy (sat_bd _) (sat_bd _) _).mono ?_); rintro e w4 ⟨rfl, g4⟩; have HK5 := hid (HK4.out.below g4); have HA5 := hid (HA4.out.below g4); obtain ⟨q4, q5, q6, q7, q8, q9, q10, q11, q12, q13⟩ := HK5.out.gs.p1; have f5 := HK5.out.gs.frozen)))
      all_goals
       go_wp2_with fail
       go_meet
       case rel =>
        rw [show boostP 65536 P2 = { P2 with vx := satI (P2.vx + satI (waveI (s.p1.fa + 16384))), vy := satI (P2.vy + satI (waveI s.p1.fa)) } by simp [boostP, wayX, wayY, HE.out.fa]]
        exact ⟨rfl, (HK5.out.set (j := 16) (s' := { s with p1 := { P2 with vx := satI (P2.vx + satI (waveI (s.p1.fa + 16384))) } }) rfl (by decide) rfl).set (j := 17) rfl (by decide) rfl, (HA5.out.far (HK5.out.gs.ne HA5.out (by decide)) _).far (HK5.out.gs.ne HA5.out (by decide)) _⟩
     case rest =>
      obtain ⟨rfl, hK, hA⟩ := hcut
      have HK9 := hid hK
      have hxP : -4194304 ≤ P2.ax ∧ P2.ax ≤ 4194304 := by rw [HE.out.ax]; exact hx
      clear hK hA HKd HAd q4 q5 q6 q7 q8 q9 q10 q11 q12 q13 w0 w1
      obtain ⟨q4, q5, q6, q7, q8, q9, q10, q11, q12, q13⟩ := HK9.out.gs.p1
      have f9 := HK9.out.gs.frozen
      go_upto_region 11 with fail
      have HKA : Hid (Gk w (wc.setCell ⟨b, 21, none⟩ (.int .i64 20)) n b pb { s with p1 := { boostP 65536 P2 with wi := 20 } } l2) := hid (HK9.out.set rfl (by decide) rfl)
      generalize World.setCell wc _ _ = wd at HKA ⊢
      go_wp2_with (first
       | (go_at_call 140; ((with_reducible refine (em1 _).mono ?_); rintro e w' ⟨rfl, rfl⟩))
       | (go_at_call 108; ((refine (tl2_9 HKA.out.gs hxP).mono ?_); rintro e w5 ⟨rfl, g5⟩; have HKB := hid (HKA.out.step g5); clear g5)))
      go_end0
      exact ⟨rfl, by rw [HR.out, hRR]; exact HKB.out⟩
   · have hb : (32 * (a / 32 % 2) != 0) = true := by rw [e5]; rfl
     have hb2 : (P2.wi == 0) = false := by simp [e6]
     have hRR : dashP s.fr 2 a (P2, l2) = (P2, l2) := by simp [dashP, e6]
     go_wp2_with fail
     go_end0
     exact ⟨rfl, by rw [HR.out, hRR]; exact HK8.out⟩

end Go.Proofs.YtfclnhmijjlhdaaGreatDoor.Gm
