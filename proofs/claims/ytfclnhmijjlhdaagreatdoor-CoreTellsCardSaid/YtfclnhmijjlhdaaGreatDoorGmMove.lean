/- The way goes on (layer 12, game). -/
import Derived.Test.YtfclnhmijjlhdaaGreatDoorGmFire
import Derived.Deep.RegionHeld3
import Derived.Deep.DeepCutAuto
import Derived.Deep.RegionWith
namespace Go.Proofs.YtfclnhmijjlhdaaGreatDoor.Gm
open Go.RowKit Go.Proofs.YtfclnhmijjlhdaaGreatDoor.Fx Go.Proofs.YtfclnhmijjlhdaaGreatDoor.Tg Go.Proofs.YtfclnhmijjlhdaaGreatDoor.Dc
open Go.Proofs.YtfclnhmijjlhdaaGreatDoor.Ev (Ev Ky addR pageI At ecs Pg Evs)
open Go.Proofs.YtfclnhmijjlhdaaGreatDoor.Sh (In32 vec box insideB touchB slI mvP mvV wallI)
set_option linter.unusedVariables false

theorem tkM {P : Program} {ops : Array Oper} {R : Exit → Act → World → Prop} {md : Region.Mode} {S : World → Prop} {oi : Oper} {fuel : Nat} {listed : Array Bool} {a : Act} {w : World} (i d : Nat) (v : Value) (hi : ops[i]? = some oi) (hd : oi.dst = some d)
 (hc : (Region.noSelect ops && (Region.free md ops listed i && (Region.ready md ops listed).contains i)) = true)
 (hw : Region.wanted oi (yielded ops a.tmps) = true) (hy : ∀ w, S w → (execOp a.eval oi).run P w = .ok (.value v) w) (hS : S w)
 (h : wpAnyH P md ops (NoPanic R) S fuel (listed.setIfInBounds i true) (a.put (some d) v) w) : wpAnyH P md ops (NoPanic R) S (fuel + 1) listed a w := by
 simp only [Bool.and_eq_true] at hc
 exact wpAnyH_take hi hc.1 hc.2.1 hc.2.2 (fun _ _ _ h => h) (.inl ⟨hw, hy⟩) hS (by rw [hd]; exact h)
theorem puA {α : Type _} (l : List α) (i : Nat) (a : α) : l.toArray.setIfInBounds i a = (l.set i a).toArray := List.setIfInBounds_toArray ..
theorem puB {α : Type _} (a b : α) (l : List α) : (a :: l).set 0 b = b :: l := List.set_cons_zero
theorem puC {α : Type _} (a b : α) (l : List α) (n : Nat) : (a :: l).set (n + 1) b = a :: l.set n b := List.set_cons_succ

/-- what holds on the region's way: the step, and either variable, once it is there; c: how many calls are over (it says nothing; the walk goes by it). -/
structure Mv (w : World) (n b pb : Nat) (s : St) (l : List Ev) (c : Nat) (x y : Option (Nat × Array Value)) (W : World) : Prop where
 hk : Gk w W n b pb s l
 hb : Below w.heap.size w W
 ax : ∀ B cs, x = some (B, cs) → At W B cs 57 ∧ w.heap.size ≤ B
 ay : ∀ B cs, y = some (B, cs) → At W B cs 57 ∧ w.heap.size ≤ B
 ne : ∀ B cs C ds, x = some (B, cs) → y = some (C, ds) → B ≠ C
section
variable {w : World} {n b pb : Nat} {s : St} {l : List Ev} {c : Nat} {x y : Option (Nat × Array Value)} {W W' : World}
theorem Mv.start (h : Gk w W n b pb s l) (g : Below w.heap.size w W) : Mv w n b pb s l 0 none none W := ⟨h, g, (fun _ _ e => nomatch e), (fun _ _ e => nomatch e), (fun _ _ _ _ e => nomatch e)⟩
theorem Mv.call (h : Mv w n b pb s l c x y W) (d : Nat) (g : Below W.heap.size W W') : Mv w n b pb s l d x y W' :=
 ⟨h.hk.below g, Ev.bt h.hb g, fun B cs e => ⟨(h.ax B cs e).1.below g, (h.ax B cs e).2⟩, fun B cs e => ⟨(h.ay B cs e).1.below g, (h.ay B cs e).2⟩, h.ne⟩
theorem Mv.newX (h : Mv w n b pb s l c none y W) (cs : Array Value) : Mv w n b pb s l c (some (W.heap.size, cs)) y (W.alloc (.cells cs 57)) := by
 have h1 := h.call c (Ev.bal (Ev.br W) (.cells cs 57))
 refine ⟨h1.hk, h1.hb, ?_, h1.ay, ?_⟩
 · intro B ds e
   cases e
   exact ⟨At.new W cs 57, h.hb.size⟩
 · intro B ds C es e f
   cases e
   exact Ne.symm (Nat.ne_of_lt (h.ay C es f).1.lt)
theorem Mv.newY (h : Mv w n b pb s l c x none W) (cs : Array Value) : Mv w n b pb s l c x (some (W.heap.size, cs)) (W.alloc (.cells cs 57)) := by
 have h1 := h.call c (Ev.bal (Ev.br W) (.cells cs 57))
 refine ⟨h1.hk, h1.hb, h1.ax, ?_, ?_⟩
 · intro B ds e
   cases e
   exact ⟨At.new W cs 57, h.hb.size⟩
 · intro B ds C es e f
   cases f
   exact Nat.ne_of_lt (h.ax B ds e).1.lt
theorem Mv.setX {B C : Nat} {p q X Y : Value} {cs : Array Value} (h : Mv w n b pb s l c (some (B, #[p, q])) (some (C, cs)) W) (hnw : n ≤ w.heap.size) (d : Nat) :
 Mv w n b pb s l d (some (B, #[X, Y])) (some (C, cs)) ((W.setCell ⟨B, 0, none⟩ X).setCell ⟨B, 1, none⟩ Y) := by
 obtain ⟨a1, g1⟩ := h.ax B _ rfl
 obtain ⟨a2, g2⟩ := h.ay C _ rfl
 have hne := h.ne B _ C _ rfl rfl
 refine ⟨?_, ?_, ?_, ?_, ?_⟩
 · exact (h.hk.other a1 (by decide) (by decide) (by decide) g1 (Nat.le_trans hnw g1) 0 X).other (at_set a1 0 X) (by decide) (by decide) (by decide) g1 (Nat.le_trans hnw g1) 1 Y
 · exact (h.hb.setCell (p := ⟨B, 0, none⟩) g1 X).setCell (p := ⟨B, 1, none⟩) g1 Y
 · intro D ds e
   cases e
   exact ⟨at_set (at_set a1 0 X) 1 Y, g1⟩
 · intro D ds e
   cases e
   exact ⟨(a2.far (j := 0) (Ne.symm hne) X).far (j := 1) (Ne.symm hne) Y, g2⟩
 · intro D ds E es e f
   cases e; cases f
   exact hne
theorem Mv.setY {B C : Nat} {p q X Y : Value} {cs : Array Value} (h : Mv w n b pb s l c (some (C, cs)) (some (B, #[p, q])) W) (hnw : n ≤ w.heap.size) (d : Nat) :
 Mv w n b pb s l d (some (C, cs)) (some (B, #[X, Y])) ((W.setCell ⟨B, 0, none⟩ X).setCell ⟨B, 1, none⟩ Y) := by
 obtain ⟨a1, g1⟩ := h.ay B _ rfl
 obtain ⟨a2, g2⟩ := h.ax C _ rfl
 have hne := h.ne C _ B _ rfl rfl
 refine ⟨?_, ?_, ?_, ?_, ?_⟩
 · exact (h.hk.other a1 (by decide) (by decide) (by decide) g1 (Nat.le_trans hnw g1) 0 X).other (at_set a1 0 X) (by decide) (by decide) (by decide) g1 (Nat.le_trans hnw g1) 1 Y
 · exact (h.hb.setCell (p := ⟨B, 0, none⟩) g1 X).setCell (p := ⟨B, 1, none⟩) g1 Y
 · intro D ds e
   cases e
   exact ⟨(a2.far (j := 0) hne X).far (j := 1) hne Y, g2⟩
 · intro D ds e
   cases e
   exact ⟨at_set (at_set a1 0 X) 1 Y, g1⟩
 · intro D ds E es e f
   cases e; cases f
   exact hne
end

set_option maxRecDepth 100000 in
set_option maxHeartbeats 4000000 in
theorem move0_c {w : World} {n b pb : Nat} {s : St} {l : List Ev} (h : Gs w n b pb s l) (hp : Mp s.p0) :
 Calls Tryz.prog 105 #[.pointer (some ⟨b, 0, none⟩), .int .i64 0] w fun e w' => e = .returned (.tuple #[]) ∧ Gk w w' n b pb { s with p0 := (moveP s.fr 1 (s.p0, l)).1 } (moveP s.fr 1 (s.p0, l)).2 := by
 have HK := hid h.gk
 have h1 := in32_of hp.ax
 have h2 := in32_of hp.ay
 have hs1 : In32 (slowX s.p0) := slow_bd _ _ _ (sat_bd _)
 have hs2 : In32 (slowY s.p0) := slow_bd _ _ _ (sat_bd _)
 have HSl := fun W => Sh.slow_c s.p0.vx s.p0.vy 61440 131072 hp.vx hp.vy (by decide) (by decide) W
 have HMv := fun W => Sh.move_ok s.p0.ax s.p0.ay (slowX s.p0) (slowY s.p0) (-3932160) (-3932160) 3932160 3932160 h1 h2 hs1 hs2 (by decide) (by decide) (by decide) (by decide) (by decide) W
 have HR : Hid (moveP s.fr 1 (s.p0, l) = ({ s.p0 with ax := mvP s.p0.ax (slowX s.p0) (-3932160) 3932160, ay := mvP s.p0.ay (slowY s.p0) (-3932160) 3932160, vx := mvV s.p0.ax (slowX s.p0) (-3932160) 3932160, vy := mvV s.p0.ay (slowY s.p0) (-3932160) 3932160 }, if wallI s.p0.ax s.p0.ay (slowX s.p0) (slowY s.p0) (-3932160) (-3932160) 3932160 3932160 = 0 then l else tel s.fr l 1 3 (mvP s.p0.ax (slowX s.p0) (-3932160) 3932160))) := hid rfl
 have hX : ∃ X Y U V' W' A B : Int, Hid (X = mvP s.p0.ax (slowX s.p0) (-3932160) 3932160 ∧ Y = mvP s.p0.ay (slowY s.p0) (-3932160) 3932160 ∧ U = mvV s.p0.ax (slowX s.p0) (-3932160) 3932160 ∧ V' = mvV s.p0.ay (slowY s.p0) (-3932160) 3932160 ∧ W' = wallI s.p0.ax s.p0.ay (slowX s.p0) (slowY s.p0) (-3932160) (-3932160) 3932160 3932160 ∧ A = slowX s.p0 ∧ B = slowY s.p0) := ⟨_, _, _, _, _, _, _, rfl, rfl, rfl, rfl, rfl, rfl, rfl⟩
 obtain ⟨X, Y, U, V', W', A, B, hX⟩ := hX
 obtain ⟨x1, x2, x3, x4, x5, x6, x7⟩ := hX.out
 have hXb : Hid (-4194304 ≤ X ∧ X ≤ 4194304) := hid (by rw [x1]; exact mvP_bd _ _)
 rw [← x1, ← x2, ← x3, ← x4, ← x5, ← x6, ← x7] at HMv
 rw [← x1, ← x2, ← x3, ← x4, ← x5] at HR
 change ∀ W, Calls _ _ _ W (fun e w' => e = .returned (vec (slowX s.p0) (slowY s.p0)) ∧ _) at HSl
 rw [← x6, ← x7] at HSl
 clear hX x1 x2 x3 x4 x5 x6 x7 hs1 hs2
 go_enter Tryz.func105, Tryz.ntmps105
 go_upto_region 1 with fail
 go_cut [4, 5, 6, 7] (fun s4 s5 s6 s7 wx => s4 = .pointer (some ⟨b, 4, none⟩) ∧ ∃ B C, s5 = .pointer (some ⟨B, 0, none⟩) ∧ s6 = .pointer (some ⟨C, 0, none⟩) ∧ s7 = .int .i64 W' ∧ Gk w wx n b pb s l ∧ At wx B #[.int .i32 X, .int .i32 Y] 57 ∧ At wx C #[.int .i32 U, .int .i32 V'] 57)
 case first =>
  have hK := hid (fun W (g : Below w.heap.size w W) => (HK.out.below g).gs.p0)
  have HK0 := hid (HK.out.below (Ev.bd1 (Ev.br _)))
  have HB0 := hid (Ev.bd1 (Ev.br w))
  have hnw := h.size
  refine wp_region_noPanic ?_
  refine wp_region_held_drew (S := (fun W => Below w.heap.size w W)) (by kernel_rfl) HB0.out (fun hHeld => ?_)
  generalize World.drew w = u0 at HK0 HB0 hHeld ⊢
  have M := hid (Mv.start HK0.out HB0.out)
  generalize u0 = u at M hHeld ⊢
  (refine tkM 0 16 ?_ rfl rfl (by kernel_rfl) (by rfl) ?_ (by assumption) ?_; rotate_left; (focus (intro W hSW; go_simp; (try with_reducible rfl))); simp only [Act.put, puA, puB, puC])
  (refine tkM 1 17 ?_ rfl rfl (by kernel_rfl) (by rfl) ?_ (by assumption) ?_; rotate_left; (focus (intro W hSW; go_simp; (try with_reducible rfl))); simp only [Act.put, puA, puB, puC])
  (refine tkM 2 18 ?_ rfl rfl (by kernel_rfl) (by rfl) ?_ (by assumption) ?_; rotate_left; (focus (intro W hSW; go_simp; (try with_reducible rfl))); simp only [Act.put, puA, puB, puC])
  (refine tkM 3 19 ?_ rfl rfl (by kernel_rfl) (by rfl) ?_ (by assumption) ?_; rotate_left; (focus (intro W hSW; have hSW2 := hK.out W hSW; go_simp; (try with_reducible rfl))); simp only [Act.put, puA, puB, puC])
  (refine tkM 4 20 ?_ rfl rfl (by kernel_rfl) (by rfl) ?_ (by assumption) ?_; rotate_left; (focus (intro W hSW; go_simp; (try with_reducible rfl))); simp only [Act.put, puA, puB, puC])
  (refine tkM 5 21 ?_ rfl rfl (by kernel_rfl) (by rfl) ?_ (by assumption) ?_; rotate_left; (focus (intro W hSW; go_simp; (try with_reducible rfl))); simp only [Act.put, puA, puB, puC])
  (refine tkM 6 22 ?_ rfl rfl (by kernel_rfl) (by rfl) ?_ (by assumption) ?_; rotate_left; (focus (intro W hSW; go_simp; (try with_reducible rfl))); simp only [Act.put, puA, puB, puC])
  (refine tkM 7 23 ?_ rfl rfl (by kernel_rfl) (by rfl) ?_ (by assumption) ?_; rotate_left; (focus (intro W hSW; have hSW2 := hK.out W hSW; go_simp; (try with_reducible rfl))); simp only [Act.put, puA, puB, puC])
  iterate 9 (all_goals ((first | (have _hm : Hid (Mv w n b pb s l 0 none none u) := M; clear _hm; refine wpAnyH_ready (rs := [8, 16, 17]) (by kernel_rfl) (by simp) ?_) | (have _hm : Hid (Mv w n b pb s l 0 none (some _) u) := M; clear _hm; refine wpAnyH_ready (rs := [8, 16]) (by kernel_rfl) (by simp) ?_) | (have _hm : Hid (Mv w n b pb s l 0 (some _) none u) := M; clear _hm; refine wpAnyH_ready (rs := [8, 17]) (by kernel_rfl) (by simp) ?_) | (have _hm : Hid (Mv w n b pb s l 0 (some _) (some _) u) := M; clear _hm; refine wpAnyH_ready (rs := [8]) (by kernel_rfl) (by simp) ?_) | (have _hm : Hid (Mv w n b pb s l 1 none none u) := M; clear _hm; refine wpAnyH_ready (rs := [9, 16, 17]) (by kernel_rfl) (by simp) ?_) | (have _hm : Hid (Mv w n b pb s l 1 none (some _) u) := M; clear _hm; refine wpAnyH_ready (rs := [9, 16]) (by kernel_rfl) (by simp) ?_) | (have _hm : Hid (Mv w n b pb s l 1 (some _) none u) := M; clear _hm; refine wpAnyH_ready (rs := [9, 17]) (by kernel_rfl) (by simp) ?_) | (have _hm : Hid (Mv w n b pb s l 1 (some _) (some _) u) := M; clear _hm; refine wpAnyH_ready (rs := [9]) (by kernel_rfl) (by simp) ?_) | (have _hm : Hid (Mv w n b pb s l 2 none none u) := M; clear _hm; refine wpAnyH_ready (rs := [10, 16, 17]) (by kernel_rfl) (by simp) ?_) | (have _hm : Hid (Mv w n b pb s l 2 none (some _) u) := M; clear _hm; refine wpAnyH_ready (rs := [10, 16]) (by kernel_rfl) (by simp) ?_) | (have _hm : Hid (Mv w n b pb s l 2 (some _) none u) := M; clear _hm; refine wpAnyH_ready (rs := [10, 17]) (by kernel_rfl) (by simp) ?_) | (have _hm : Hid (Mv w n b pb s l 2 (some _) (some _) u) := M; clear _hm; refine wpAnyH_ready (rs := [10]) (by kernel_rfl) (by simp) ?_) | (have _hm : Hid (Mv w n b pb s l 3 none none u) := M; clear _hm; refine wpAnyH_ready (rs := [16, 17]) (by kernel_rfl) (by simp) ?_) | (have _hm : Hid (Mv w n b pb s l 3 none (some _) u) := M; clear _hm; refine wpAnyH_ready (rs := [16]) (by kernel_rfl) (by simp) ?_) | (have _hm : Hid (Mv w n b pb s l 3 (some _) none u) := M; clear _hm; refine wpAnyH_ready (rs := [17]) (by kernel_rfl) (by simp) ?_) | (have _hm : Hid (Mv w n b pb s l 3 (some _) (some _) u) := M; clear _hm; refine wpAnyH_ready (rs := [18]) (by kernel_rfl) (by simp) ?_) | (have _hm : Hid (Mv w n b pb s l 4 _ _ u) := M; clear _hm; refine wpAnyH_ready (rs := [19]) (by kernel_rfl) (by simp) ?_) | (have _hm : Hid (Mv w n b pb s l 5 _ _ u) := M; clear _hm; refine wpAnyH_ready (rs := [20]) (by kernel_rfl) (by simp) ?_) | (have _hm : Hid (Mv w n b pb s l 6 _ _ u) := M; clear _hm; refine wpAnyH_ready (rs := [21]) (by kernel_rfl) (by simp) ?_)); repeat' (first | exact AllReadyH.nil | (refine AllReadyH.cons (i := 8) rfl (fun K hKK => ?_) ?_; go_simp; refine (HSl _).mono ?_; rintro e u ⟨rfl, g⟩; replace M := hid (M.out.call 1 g); dsimp only; refine hKK.out _ _ M.out.hb (fun hHeld => ?_); clear hKK K; (try simp only [Act.put, puA, puB, puC])) | (refine AllReadyH.cons (i := 9) rfl (fun K hKK => ?_) ?_; go_simp; refine (playersbox_c _).mono ?_; rintro e u ⟨rfl, g⟩; replace M := hid (M.out.call 2 g); dsimp only; refine hKK.out _ _ M.out.hb (fun hHeld => ?_); clear hKK K; (try simp only [Act.put, puA, puB, puC])) | (refine AllReadyH.cons (i := 10) rfl (fun K hKK => ?_) ?_; go_simp; refine (HMv _).mono ?_; rintro e u ⟨rfl, g⟩; replace M := hid (M.out.call 3 g); dsimp only; refine hKK.out _ _ M.out.hb (fun hHeld => ?_); clear hKK K; (try simp only [Act.put, puA, puB, puC]); (refine tkM 11 15 ?_ rfl rfl (by kernel_rfl) (by rfl) ?_ (by assumption) ?_; rotate_left; (focus (intro W hSW; go_simp; (try with_reducible rfl))); simp only [Act.put, puA, puB, puC]); (refine tkM 12 27 ?_ rfl rfl (by kernel_rfl) (by rfl) ?_ (by assumption) ?_; rotate_left; (focus (intro W hSW; go_simp; (try with_reducible rfl))); simp only [Act.put, puA, puB, puC]); (refine tkM 13 28 ?_ rfl rfl (by kernel_rfl) (by rfl) ?_ (by assumption) ?_; rotate_left; (focus (intro W hSW; go_simp; (try with_reducible rfl))); simp only [Act.put, puA, puB, puC]); (refine tkM 14 29 ?_ rfl rfl (by kernel_rfl) (by rfl) ?_ (by assumption) ?_; rotate_left; (focus (intro W hSW; go_simp; (try with_reducible rfl))); simp only [Act.put, puA, puB, puC]); (refine tkM 15 30 ?_ rfl rfl (by kernel_rfl) (by rfl) ?_ (by assumption) ?_; rotate_left; (focus (intro W hSW; go_simp; (try with_reducible rfl))); simp only [Act.put, puA, puB, puC])) | (refine AllReadyH.cons (i := 16) rfl (fun K hKK => ?_) ?_; go_simp; replace M := hid (M.out.newX #[.int .i32 0, .int .i32 0]); refine hKK.out _ _ M.out.hb (fun hHeld => ?_); clear hKK K; (try simp only [Act.put, puA, puB, puC]); generalize u.heap.size = BX at M ⊢; generalize World.alloc u _ = u at M hHeld ⊢) | (refine AllReadyH.cons (i := 17) rfl (fun K hKK => ?_) ?_; go_simp; replace M := hid (M.out.newY #[.int .i32 0, .int .i32 0]); refine hKK.out _ _ M.out.hb (fun hHeld => ?_); clear hKK K; (try simp only [Act.put, puA, puB, puC]); generalize u.heap.size = BY at M ⊢; generalize World.alloc u _ = u at M hHeld ⊢) | (refine AllReadyH.cons (i := 18) rfl (fun K hKK => ?_) ?_; obtain ⟨k0, k1⟩ := (M.out.ax _ _ rfl).1.two; have kf := (M.out.ax _ _ rfl).1.frozen; go_simp; replace M := hid (M.out.setX (X := .int .i32 X) (Y := .int .i32 Y) hnw 4); clear k0 k1 kf; refine hKK.out _ _ M.out.hb (fun hHeld => ?_); clear hKK K; (try simp only [Act.put, puA, puB, puC]); generalize World.setCell (World.setCell _ _ _) _ _ = u at M hHeld ⊢) | (refine AllReadyH.cons (i := 19) rfl (fun K hKK => ?_) ?_; obtain ⟨k0, k1⟩ := (M.out.ay _ _ rfl).1.two; have kf := (M.out.ay _ _ rfl).1.frozen; go_simp; replace M := hid (M.out.setY (X := .int .i32 U) (Y := .int .i32 V') hnw 5); clear k0 k1 kf; refine hKK.out _ _ M.out.hb (fun hHeld => ?_); clear hKK K; (try simp only [Act.put, puA, puB, puC]); generalize World.setCell (World.setCell _ _ _) _ _ = u at M hHeld ⊢) | (refine AllReadyH.cons (i := 20) rfl (fun K hKK => ?_) ?_; go_simp; replace M := hid (M.out.call 6 (Ev.br _)); refine hKK.out _ _ M.out.hb (fun hHeld => ?_); clear hKK K; (try simp only [Act.put, puA, puB, puC])) | (refine AllReadyH.cons (i := 21) rfl (fun K hKK => ?_) ?_; go_simp; refine hKK.out _ _ M.out.hb (fun hHeld => ?_); clear hKK K; (try simp only [Act.put, puA, puB, puC])))))
  all_goals
   refine wpAnyH_done (by kernel_rfl) ?_ _
   refine NoPanic.normal ?_
   go_wp2_with fail
   go_meet
   case rel => exact ⟨rfl, _, _, rfl, rfl, rfl, M.out.hk, (M.out.ax _ _ rfl).1, (M.out.ay _ _ rfl).1⟩
 case rest =>
  obtain ⟨rfl, B5, B6, rfl, rfl, rfl, hK, hA5, hA6⟩ := hcut
  have HK1 := hid hK
  have HA5 := hid hA5
  have HA6 := hid hA6
  clear hK hA5 hA6 HK
  obtain ⟨k0, k1⟩ := HA5.out.two
  obtain ⟨k2, k3⟩ := HA6.out.two
  obtain ⟨q4, q5, q6, q7, q8, q9, q10, q11, q12, q13⟩ := HK1.out.gs.p0
  have f1 := HK1.out.gs.frozen
  go_upto_region 2 with fail
  go_region
  have HK2 : Hid (Gk w ((((wc.setCell ⟨b, 4, none⟩ (.int .i32 X)).setCell ⟨b, 5, none⟩ (.int .i32 Y)).setCell ⟨b, 6, none⟩ (.int .i32 U)).setCell ⟨b, 7, none⟩ (.int .i32 V')) n b pb { s with p0 := { s.p0 with ax := X, ay := Y, vx := U, vy := V' } } l) := hid ((((HK1.out.set (j := 4) (s' := { s with p0 := { s.p0 with ax := X } }) rfl (by decide) rfl).set (j := 5) (s' := { s with p0 := { s.p0 with ax := X, ay := Y } }) rfl (by decide) rfl).set (j := 6) (s' := { s with p0 := { s.p0 with ax := X, ay := Y, vx := U } }) rfl (by decide) rfl).set rfl (by decide) rfl)
  generalize World.setCell (World.setCell (World.setCell (World.setCell wc _ _) _ _) _ _) _ _ = w2 at HK2 ⊢
  have HK3 := hid (HK2.out.below (Ev.bd1 (Ev.br _)))
  generalize World.drew w2 = w3 at HK3 ⊢
  clear k0 k1 k2 k3 q4 q5 q6 q7 q8 q9 q10 q11 q12 q13 f1 HK2 HK1 HA5 HA6
  by_cases hw : W' = 0
  · have hwb : (W' != 0) = false := by simp [hw]
    have HS : Hid (moveP s.fr 1 (s.p0, l) = ({ s.p0 with ax := X, ay := Y, vx := U, vy := V' }, l)) := hid (by rw [HR.out, if_pos hw])
    go_wp2_with fail
    go_end0
    exact ⟨rfl, by rw [HS.out]; exact HK3.out⟩
  · have hwb : (W' != 0) = true := by simp [hw]
    have HS : Hid (moveP s.fr 1 (s.p0, l) = ({ s.p0 with ax := X, ay := Y, vx := U, vy := V' }, tel s.fr l 1 3 X)) := hid (by rw [HR.out, if_neg hw])
    go_wp2_with (first
     | (go_at_call 140; ((with_reducible refine (em0 _).mono ?_); rintro e w' ⟨rfl, rfl⟩))
     | (go_at_call 108; ((refine (tl1_3 HK3.out.gs hXb.out).mono ?_); rintro e w5 ⟨rfl, g5⟩; have HK4 := hid (HK3.out.step g5); clear g5)))
    go_end0
    exact ⟨rfl, by rw [HS.out]; exact HK4.out⟩

end Go.Proofs.YtfclnhmijjlhdaaGreatDoor.Gm
