/- One more event of the frame (layer 12, game). -/
import Derived.Test.YtoogcbniphoaoaaDoorGmCalls
namespace Go.Proofs.YtoogcbniphoaoaaDoor.Gm
open Go.RowKit Go.Proofs.YtoogcbniphoaoaaDoor.Fx Go.Proofs.YtoogcbniphoaoaaDoor.Tg Go.Proofs.YtoogcbniphoaoaaDoor.Dc
open Go.Proofs.YtoogcbniphoaoaaDoor.Ev (Ev Ky addR pageI At ecs Pg Evs)
open Go.Proofs.YtoogcbniphoaoaaDoor.Sh (In32 vec box insideB touchB slI mvP mvV wallI)
open Go.Proofs.YtoogcbniphoaoaaDoor.Rg (Keeps Foot Held)
set_option linter.unusedVariables false

theorem snd_cells {w : World} (h : Tab w) {k : Nat} (h1 : 1 ≤ k) (hk : k < 10) : w.cell? ⟨1, k * 9, none⟩ = some (.int .i64 0) ∧ w.cell? ⟨1, k * 9 + 1, none⟩ = some (.int .i64 0) ∧ w.cell? ⟨1, k * 9 + 2, none⟩ = some (.int .i64 0) ∧ w.cell? ⟨1, k * 9 + 3, none⟩ = some (.int .i64 0) ∧ w.cell? ⟨1, k * 9 + 4, none⟩ = some (.int .i64 k) ∧ w.cell? ⟨1, k * 9 + 5, none⟩ = some (.int .i64 (gainI k)) ∧ w.cell? ⟨1, k * 9 + 6, none⟩ = some (.int .i64 0) ∧ w.cell? ⟨1, k * 9 + 7, none⟩ = some (.int .i64 (prioI k)) ∧ w.cell? ⟨1, k * 9 + 8, none⟩ = some (.int .i64 (longI k)) := by
  have hs : sndE k = ⟨⟨0, 0, 0, 0⟩, k, gainI k, 0, prioI k, longI k⟩ := by unfold sndE; rw [if_neg (by omega)]
  have hc := fun j v hv => h.snd k j v hk hv
  rw [hs] at hc
  exact ⟨hc 0 _ rfl, hc 1 _ rfl, hc 2 _ rfl, hc 3 _ rfl, hc 4 _ rfl, hc 5 _ rfl, hc 6 _ rfl, hc 7 _ rfl, hc 8 _ rfl⟩

theorem eat {W : World} {B : Nat} {x : Ev} (h : At W B (ecs x).toArray 45) : W.cell? ⟨B, 0, none⟩ = some (.int .i64 x.key.f) ∧ W.cell? ⟨B, 1, none⟩ = some (.int .i64 x.key.e) ∧ W.cell? ⟨B, 2, none⟩ = some (.int .i64 x.key.k) ∧ W.cell? ⟨B, 3, none⟩ = some (.int .i64 x.key.o) ∧ W.cell? ⟨B, 4, none⟩ = some (.int .i64 x.a) ∧ W.cell? ⟨B, 5, none⟩ = some (.int .i64 x.g) ∧ W.cell? ⟨B, 6, none⟩ = some (.int .i64 x.p) ∧ W.cell? ⟨B, 7, none⟩ = some (.int .i64 x.r) ∧ W.cell? ⟨B, 8, none⟩ = some (.int .i64 x.l) := At.nine h

/-- what Add leaves of a step on its way, and of the event's own block. -/
theorem add_gs {w W : World} {n b pb : Nat} {s : St} {l : List Ev} (h : Gs w n b pb s l) (e : Ev) :
    Calls Tryd.prog 49 #[.pointer (some ⟨pb, 0, none⟩), Ev.ev e] w fun r w' => r = .returned (.tuple #[Ev.kv (addR s.fr l e).2.1, .int .i64 (addR s.fr l e).2.2]) ∧
      Gs w' n b pb s (addR s.fr l e).1 ∧ Kt n w w' ∧ ∀ B x, At w B (ecs x).toArray 45 → (∀ a cap, Pg w n pb s.fr (some a) cap l → a.block ≠ B) → At w' B (ecs x).toArray 45 := by
  obtain ⟨ao, cap, hp⟩ := h.pg
  refine (Ev.add_c e w hp h.size h.inv.2.1 h.inv.2.2.1).mono ?_
  rintro r w' ⟨rfl, ao', cap', hp', _, hk⟩
  have hB : Below n w w' := hk.below h.size (fun k hk => hp.footGe k hk)
  have hfoot : ∀ k cs T, At w k cs T → T ≠ 70 → T ≠ 45 → ¬ Foot pb ao k := by
    rintro k cs T hx h1 h2 (rfl | ⟨a, ha, rfl⟩)
    · have hx' : w.heap[k]? = some (.cells cs T (0, 0)) := hx
      have := hx'.symm.trans hp.block
      simp at this
      exact h1 this.2
    · rcases hp.form with ⟨e1, _⟩ | ⟨g, cur, e1, _, hg, _⟩
      · rw [e1] at ha; cases ha
      · rw [e1] at ha
        cases ha
        have hx' : w.heap[g]? = some (.cells cs T (0, 0)) := hx
        have := hx'.symm.trans hg
        simp at this
        exact h2 this.2
  have hoth : ∀ k cs T, At w k cs T → T ≠ 70 → T ≠ 45 → At w' k cs T := fun k cs T hx h1 h2 => (hk.block k hx.lt (hfoot k cs T hx h1 h2)).trans hx
  refine ⟨rfl, ⟨h.tab.below h.two hB, hoth b _ _ h.blk (by decide) (by decide), ⟨ao', cap', hp'⟩, Ev.add_inv h.inv e, h.ge, h.two⟩, ⟨hB, fun k cs T hx _ h1 h2 => hoth k cs T hx h1 h2⟩, ?_⟩
  intro B x hx ha
  refine (hk.block B hx.lt ?_).trans hx
  rintro (rfl | ⟨a, e1, rfl⟩)
  · have hx' : w.heap[B]? = some (.cells _ _ (0, 0)) := hx
    have := hx'.symm.trans hp.block
    simp at this
  · subst e1
    exact ha a cap hp rfl

theorem pg_lt {w W : World} {n b pb : Nat} {s : St} {l : List Ev} (h : Gs w n b pb s l) (g : Below w.heap.size w W) : ∀ a cap, Pg W n pb s.fr (some a) cap l → a.block < w.heap.size := by
  obtain ⟨ao, cap0, hp⟩ := h.pg
  intro a cap hp'
  have h1 := (hp.old g).block.symm.trans hp'.block
  simp at h1
  exact hp.footLt a.block (.inr ⟨a, h1.1, rfl⟩)

theorem pan1 (x : Int) : panI 1 x = x / 128 := rfl
theorem pan2 (x : Int) : panI 2 x = x / 128 := rfl

set_option maxRecDepth 100000 in
set_option maxHeartbeats 1000000 in
theorem tell0_c (k : Nat) (h1 : 1 ≤ k) (hk : k < 10) (w : World) {n b pb : Nat} {s : St} {l : List Ev} (h : Gs w n b pb s l) :
    Calls Tryd.prog 33 #[.pointer (some ⟨b, 0, none⟩), .int .i64 0, .int .i64 k] w fun e w' => e = .returned (.tuple #[]) ∧ Gk w w' n b pb s (tel s.fr l 0 k 0) := by
  have HG := hid h
  obtain ⟨s0, s1, s2, s3, s4, s5, s6, s7, s8⟩ := snd_cells h.tab h1 hk
  have hk0 : (0 : Int) ≤ (k : Int) := by omega
  have hk1 : (k : Int) < 10 := by omega
  have hnew : Hid (∀ W, Below w.heap.size w W → ∀ a cap, Pg W n pb s.fr (some a) cap l → a.block < w.heap.size) := hid (fun W g => pg_lt h g)
  go_enter Tryd.func33, Tryd.ntmps33
  go_upto_region 4 with fail
  have HE := hid (At.new w (ecs (evt 0 k 0)).toArray 45)
  have HG0 := hid (HG.out.below (Ev.bal (Ev.br w) (.cells (ecs (evt 0 k 0)).toArray 45)))
  simp only [evt, panI, if_true] at HE HG0
  have HB0 := hid (Ev.bal (Ev.br w) (.cells (ecs (evt 0 k 0)).toArray 45))
  simp only [evt, panI, if_true] at HB0
  generalize World.alloc w _ = w0 at HE HG0 HB0 ⊢
  have HA : Hid (∀ W, Below w0.heap.size w0 W → At W w.heap.size (ecs (evt 0 k 0)).toArray 45) := hid (fun W g => HE.out.below g)
  have HGs : Hid (∀ W, Below w0.heap.size w0 W → Gs W n b pb s l) := hid (fun W g => HG0.out.below g)
  have hS0 := eat (HA.out w0 (Ev.br _))
  obtain ⟨_, _, _, _, q4⟩ := (HGs.out w0 (Ev.br _)).hd
  simp only [evt, panI, if_true] at hS0
  obtain ⟨r0, r1, r2, r3, r4, r5, r6, r7, r8⟩ := hS0
  clear s0 s1 s2 s3 s4 s5 s6 s7 s8
  go_region_held3 (fun W => W.cell? ⟨b, 60, none⟩ = some (.pointer (some ⟨pb, 0, none⟩)) ∧ W.cell? ⟨w.heap.size, 0, none⟩ = some (.int .i64 0) ∧ W.cell? ⟨w.heap.size, 1, none⟩ = some (.int .i64 0) ∧ W.cell? ⟨w.heap.size, 2, none⟩ = some (.int .i64 k) ∧ W.cell? ⟨w.heap.size, 3, none⟩ = some (.int .i64 0) ∧ W.cell? ⟨w.heap.size, 4, none⟩ = some (.int .i64 k) ∧ W.cell? ⟨w.heap.size, 5, none⟩ = some (.int .i64 (gainI k)) ∧ W.cell? ⟨w.heap.size, 6, none⟩ = some (.int .i64 0) ∧ W.cell? ⟨w.heap.size, 7, none⟩ = some (.int .i64 (prioI k)) ∧ W.cell? ⟨w.heap.size, 8, none⟩ = some (.int .i64 (longI k)))
    (go_keep)
    (first
      | (go_at_call 49; (refine (add_gs (W := w) (HGs.out _ (by first | exact Ev.bdn (Ev.br _) _ | exact Ev.bd1 (Ev.br _) | exact Ev.br _)) (evt 0 k 0)).mono ?_); rintro r w2 ⟨rfl, hg2, hk2, hx2⟩; have hx3 := eat (hx2 w.heap.size _ (HA.out _ (Ev.bd1 (Ev.br _))) (fun a cap hp => Nat.ne_of_lt (hnew.out _ (Ev.bd1 HB0.out) a cap hp))); simp only [evt, panI, if_true] at hx3; have hSS := And.intro hg2.hd.2.2.2.2 hx3; clear hx2 hx3))
  go_wp2_with fail
  go_end0
  exact ⟨rfl, hg2, (Kt.ofBelow HG.out.size HB0.out).trans ((Kt.ofBelow HG0.out.size (Ev.bd1 (Ev.br _))).trans hk2)⟩


set_option maxRecDepth 100000 in
set_option maxHeartbeats 1000000 in
theorem tell1_c (k : Nat) (h1 : 1 ≤ k) (hk : k < 10) (w : World) {n b pb : Nat} {s : St} {l : List Ev} (h : Gs w n b pb s l) (hx : -4194304 ≤ s.p0.ax ∧ s.p0.ax ≤ 4194304) :
    Calls Tryd.prog 33 #[.pointer (some ⟨b, 0, none⟩), .int .i64 1, .int .i64 k] w fun e w' => e = .returned (.tuple #[]) ∧ Gk w w' n b pb s (tel s.fr l 1 k s.p0.ax) := by
  have HG := hid h
  obtain ⟨s0, s1, s2, s3, s4, s5, s6, s7, s8⟩ := snd_cells h.tab h1 hk
  have hk0 : (0 : Int) ≤ (k : Int) := by omega
  have hk1 : (k : Int) < 10 := by omega
  have hnew : Hid (∀ W, Below w.heap.size w W → ∀ a cap, Pg W n pb s.fr (some a) cap l → a.block < w.heap.size) := hid (fun W g => pg_lt h g)
  go_enter Tryd.func33, Tryd.ntmps33
  go_upto_region 2 with fail
  have HE := hid (At.new w (ecs ⟨⟨0, 1, k, 0⟩, k, gainI k, 0, prioI k, longI k⟩).toArray 45)
  have HB0 := hid (Ev.bal (Ev.br w) (.cells (ecs ⟨⟨0, 1, k, 0⟩, k, gainI k, 0, prioI k, longI k⟩).toArray 45))
  have HG0 := hid (HG.out.below HB0.out)
  generalize World.alloc w _ = w0 at HE HG0 HB0 ⊢
  have hp := HG0.out.p0
  obtain ⟨a0, a1, _⟩ := hp
  have hfz := HE.out.frozen 6
  have hc6 := (At.nine HE.out).2.2.2.2.2.2.1
  clear s0 s1 s2 s3 s4 s5 s6 s7 s8
  go_upto_region 4 with (go_at_call 48; ((with_reducible refine (pan_c _ _ hx _).mono ?_); rintro r w1 ⟨rfl, g1⟩; have HE1 := hid (HE.out.below g1); have HG1 := hid (HG0.out.below g1); have HB1 := hid (Ev.bt HB0.out g1); have hc61 := (At.nine HE1.out).2.2.2.2.2.2.1; have hfz1 := HE1.out.frozen 6))
  have HE2 : Hid (At (w1.setCell ⟨w.heap.size, 6, none⟩ (.int .i64 (s.p0.ax / 128))) w.heap.size (ecs (evt 1 k s.p0.ax)).toArray 45) := hid (heap_setCell_same w1 w.heap.size 6 _ _ (.int .i64 (s.p0.ax / 128)) HE1.out)
  have HB2 : Hid (Below w.heap.size w (w1.setCell ⟨w.heap.size, 6, none⟩ (.int .i64 (s.p0.ax / 128)))) := hid (HB1.out.setCell (p := ⟨w.heap.size, 6, none⟩) (Nat.le_refl _) _)
  have HG2 := hid (HG.out.below HB2.out)
  clear HE HE1 HG0 HG1 HB0 HB1 hc6 hc61 hfz hfz1 a0 a1
  generalize World.setCell w1 _ _ = w0 at HE2 HG2 HB2 ⊢
  have HE := HE2
  have HG0 := HG2
  have HB0 := HB2
  clear HE2 HG2 HB2
  have HA : Hid (∀ W, Below w0.heap.size w0 W → At W w.heap.size (ecs (evt 1 k s.p0.ax)).toArray 45) := hid (fun W g => HE.out.below g)
  have HGs : Hid (∀ W, Below w0.heap.size w0 W → Gs W n b pb s l) := hid (fun W g => HG0.out.below g)
  have hS0 := eat (HA.out w0 (Ev.br _))
  obtain ⟨_, _, _, _, q4⟩ := (HGs.out w0 (Ev.br _)).hd
  simp only [evt, pan1] at hS0
  obtain ⟨r0, r1, r2, r3, r4, r5, r6, r7, r8⟩ := hS0
  go_region_held3 (fun W => W.cell? ⟨b, 60, none⟩ = some (.pointer (some ⟨pb, 0, none⟩)) ∧ W.cell? ⟨w.heap.size, 0, none⟩ = some (.int .i64 0) ∧ W.cell? ⟨w.heap.size, 1, none⟩ = some (.int .i64 1) ∧ W.cell? ⟨w.heap.size, 2, none⟩ = some (.int .i64 k) ∧ W.cell? ⟨w.heap.size, 3, none⟩ = some (.int .i64 0) ∧ W.cell? ⟨w.heap.size, 4, none⟩ = some (.int .i64 k) ∧ W.cell? ⟨w.heap.size, 5, none⟩ = some (.int .i64 (gainI k)) ∧ W.cell? ⟨w.heap.size, 6, none⟩ = some (.int .i64 (s.p0.ax / 128)) ∧ W.cell? ⟨w.heap.size, 7, none⟩ = some (.int .i64 (prioI k)) ∧ W.cell? ⟨w.heap.size, 8, none⟩ = some (.int .i64 (longI k)))
    (go_keep)
    (first
      | (go_at_call 49; (refine (add_gs (W := w) (HGs.out _ (by first | exact Ev.bdn (Ev.br _) _ | exact Ev.bd1 (Ev.br _) | exact Ev.br _)) (evt 1 k s.p0.ax)).mono ?_); rintro r w2 ⟨rfl, hg2, hk2, hx2⟩; have hx3 := eat (hx2 w.heap.size _ (HA.out _ (Ev.bd1 (Ev.br _))) (fun a cap hp => Nat.ne_of_lt (hnew.out _ (Ev.bd1 HB0.out) a cap hp))); simp only [evt, pan1] at hx3; have hSS := And.intro hg2.hd.2.2.2.2 hx3; clear hx2 hx3))
  go_wp2_with fail
  go_end0
  exact ⟨rfl, hg2, (Kt.ofBelow HG.out.size HB0.out).trans ((Kt.ofBelow HG0.out.size (Ev.bd1 (Ev.br _))).trans hk2)⟩


set_option maxRecDepth 100000 in
set_option maxHeartbeats 1000000 in
theorem tell2_c (k : Nat) (h1 : 1 ≤ k) (hk : k < 10) (w : World) {n b pb : Nat} {s : St} {l : List Ev} (h : Gs w n b pb s l) (hx : -4194304 ≤ s.p1.ax ∧ s.p1.ax ≤ 4194304) :
    Calls Tryd.prog 33 #[.pointer (some ⟨b, 0, none⟩), .int .i64 2, .int .i64 k] w fun e w' => e = .returned (.tuple #[]) ∧ Gk w w' n b pb s (tel s.fr l 2 k s.p1.ax) := by
  have HG := hid h
  obtain ⟨s0, s1, s2, s3, s4, s5, s6, s7, s8⟩ := snd_cells h.tab h1 hk
  have hk0 : (0 : Int) ≤ (k : Int) := by omega
  have hk1 : (k : Int) < 10 := by omega
  have hnew : Hid (∀ W, Below w.heap.size w W → ∀ a cap, Pg W n pb s.fr (some a) cap l → a.block < w.heap.size) := hid (fun W g => pg_lt h g)
  go_enter Tryd.func33, Tryd.ntmps33
  go_upto_region 2 with fail
  have HE := hid (At.new w (ecs ⟨⟨0, 2, k, 0⟩, k, gainI k, 0, prioI k, longI k⟩).toArray 45)
  have HB0 := hid (Ev.bal (Ev.br w) (.cells (ecs ⟨⟨0, 2, k, 0⟩, k, gainI k, 0, prioI k, longI k⟩).toArray 45))
  have HG0 := hid (HG.out.below HB0.out)
  generalize World.alloc w _ = w0 at HE HG0 HB0 ⊢
  have hp := HG0.out.p1
  obtain ⟨a0, a1, _⟩ := hp
  have hfz := HE.out.frozen 6
  have hc6 := (At.nine HE.out).2.2.2.2.2.2.1
  clear s0 s1 s2 s3 s4 s5 s6 s7 s8
  go_upto_region 4 with (go_at_call 48; ((with_reducible refine (pan_c _ _ hx _).mono ?_); rintro r w1 ⟨rfl, g1⟩; have HE1 := hid (HE.out.below g1); have HG1 := hid (HG0.out.below g1); have HB1 := hid (Ev.bt HB0.out g1); have hc61 := (At.nine HE1.out).2.2.2.2.2.2.1; have hfz1 := HE1.out.frozen 6))
  have HE2 : Hid (At (w1.setCell ⟨w.heap.size, 6, none⟩ (.int .i64 (s.p1.ax / 128))) w.heap.size (ecs (evt 2 k s.p1.ax)).toArray 45) := hid (heap_setCell_same w1 w.heap.size 6 _ _ (.int .i64 (s.p1.ax / 128)) HE1.out)
  have HB2 : Hid (Below w.heap.size w (w1.setCell ⟨w.heap.size, 6, none⟩ (.int .i64 (s.p1.ax / 128)))) := hid (HB1.out.setCell (p := ⟨w.heap.size, 6, none⟩) (Nat.le_refl _) _)
  have HG2 := hid (HG.out.below HB2.out)
  clear HE HE1 HG0 HG1 HB0 HB1 hc6 hc61 hfz hfz1 a0 a1
  generalize World.setCell w1 _ _ = w0 at HE2 HG2 HB2 ⊢
  have HE := HE2
  have HG0 := HG2
  have HB0 := HB2
  clear HE2 HG2 HB2
  have HA : Hid (∀ W, Below w0.heap.size w0 W → At W w.heap.size (ecs (evt 2 k s.p1.ax)).toArray 45) := hid (fun W g => HE.out.below g)
  have HGs : Hid (∀ W, Below w0.heap.size w0 W → Gs W n b pb s l) := hid (fun W g => HG0.out.below g)
  have hS0 := eat (HA.out w0 (Ev.br _))
  obtain ⟨_, _, _, _, q4⟩ := (HGs.out w0 (Ev.br _)).hd
  simp only [evt, pan2] at hS0
  obtain ⟨r0, r1, r2, r3, r4, r5, r6, r7, r8⟩ := hS0
  go_region_held3 (fun W => W.cell? ⟨b, 60, none⟩ = some (.pointer (some ⟨pb, 0, none⟩)) ∧ W.cell? ⟨w.heap.size, 0, none⟩ = some (.int .i64 0) ∧ W.cell? ⟨w.heap.size, 1, none⟩ = some (.int .i64 2) ∧ W.cell? ⟨w.heap.size, 2, none⟩ = some (.int .i64 k) ∧ W.cell? ⟨w.heap.size, 3, none⟩ = some (.int .i64 0) ∧ W.cell? ⟨w.heap.size, 4, none⟩ = some (.int .i64 k) ∧ W.cell? ⟨w.heap.size, 5, none⟩ = some (.int .i64 (gainI k)) ∧ W.cell? ⟨w.heap.size, 6, none⟩ = some (.int .i64 (s.p1.ax / 128)) ∧ W.cell? ⟨w.heap.size, 7, none⟩ = some (.int .i64 (prioI k)) ∧ W.cell? ⟨w.heap.size, 8, none⟩ = some (.int .i64 (longI k)))
    (go_keep)
    (first
      | (go_at_call 49; (refine (add_gs (W := w) (HGs.out _ (by first | exact Ev.bdn (Ev.br _) _ | exact Ev.bd1 (Ev.br _) | exact Ev.br _)) (evt 2 k s.p1.ax)).mono ?_); rintro r w2 ⟨rfl, hg2, hk2, hx2⟩; have hx3 := eat (hx2 w.heap.size _ (HA.out _ (Ev.bd1 (Ev.br _))) (fun a cap hp => Nat.ne_of_lt (hnew.out _ (Ev.bd1 HB0.out) a cap hp))); simp only [evt, pan2] at hx3; have hSS := And.intro hg2.hd.2.2.2.2 hx3; clear hx2 hx3))
  go_wp2_with fail
  go_end0
  exact ⟨rfl, hg2, (Kt.ofBelow HG.out.size HB0.out).trans ((Kt.ofBelow HG0.out.size (Ev.bd1 (Ev.br _))).trans hk2)⟩


end Go.Proofs.YtoogcbniphoaoaaDoor.Gm
