/- The small functions of the game: numbers within, angles, places, boxes, players as they begin (layer 12, game). -/
/- One more event of the frame (layer 12, game). -/
/- What is told, by its kind (layer 12, game). -/
import Derived.Test.YtfclnhmijjlhdaaGreatDoorJ9
import Derived.Deep.DeepCutAuto
import Derived.Deep.RegionWith
namespace Go.Proofs.YtfclnhmijjlhdaaGreatDoor.Gm
open Go.RowKit Go.Proofs.YtfclnhmijjlhdaaGreatDoor.Fx Go.Proofs.YtfclnhmijjlhdaaGreatDoor.Tg Go.Proofs.YtfclnhmijjlhdaaGreatDoor.Dc
open Go.Proofs.YtfclnhmijjlhdaaGreatDoor.Ev (Ev Ky addR pageI At ecs Pg Evs)
open Go.Proofs.YtfclnhmijjlhdaaGreatDoor.Sh (In32 vec box insideB touchB slI mvP mvV wallI)
set_option linter.unusedVariables false

def inB (n a b : Int) : Bool := decide (a ≤ n) && decide (n ≤ b)

theorem within_c (n a b : Int) (w : World) :
 Calls Tryz.prog 96 #[.int .i64 n, .int .i64 a, .int .i64 b] w fun e w' => e = .returned (.bool (inB n a b)) ∧ w = w' := by
 by_cases h : a ≤ n
 · rw [show inB n a b = decide (n ≤ b) by simp [inB, h]]
   go_enter Tryz.func96, Tryz.ntmps96
   go_wp2
   go_ret
   exact ⟨rfl, rfl⟩
 · rw [show inB n a b = false by simp [inB, h]]
   go_enter Tryz.func96, Tryz.ntmps96
   go_wp2
   go_ret
   exact ⟨rfl, rfl⟩

theorem oneless_c (n : Int) (h : 0 ≤ n ∧ n ≤ 1000) (w : World) :
 Calls Tryz.prog 102 #[.int .i64 n] w fun e w' => e = .returned (.int .i64 (coolI n)) ∧ w = w' := by
 unfold coolI
 by_cases k : 0 < n
 all_goals
  go_enter Tryz.func102, Tryz.ntmps102
  go_wp2
  go_ret
  exact ⟨by first | rfl | simp, rfl⟩

theorem emitter_c (n : Int) (h : 0 ≤ n ∧ n ≤ 1) (w : World) :
 Calls Tryz.prog 140 #[.int .i64 n] w fun e w' => e = .returned (.int .i64 (n + 1)) ∧ w = w' := by
 go_enter Tryz.func140, Tryz.ntmps140
 go_wp2
 go_ret
 exact ⟨rfl, rfl⟩

theorem bit_and (k : Nat) : ∀ a : Nat, a < 64 → bits .and .u8 (a : Int) 1 = (a : Int) % 2 ∧ bits .and .u8 (a : Int) 2 = 2 * ((a : Int) / 2 % 2) ∧ bits .and .u8 (a : Int) 4 = 4 * ((a : Int) / 4 % 2) ∧ bits .and .u8 (a : Int) 8 = 8 * ((a : Int) / 8 % 2) ∧ bits .and .u8 (a : Int) 16 = 16 * ((a : Int) / 16 % 2) ∧ bits .and .u8 (a : Int) 32 = 32 * ((a : Int) / 32 % 2) := by
 decide +kernel
theorem bits_of {a : Int} (h : 0 ≤ a ∧ a ≤ 63) : bits .and .u8 a 1 = a % 2 ∧ bits .and .u8 a 2 = 2 * (a / 2 % 2) ∧ bits .and .u8 a 4 = 4 * (a / 4 % 2) ∧ bits .and .u8 a 8 = 8 * (a / 8 % 2) ∧ bits .and .u8 a 16 = 16 * (a / 16 % 2) ∧ bits .and .u8 a 32 = 32 * (a / 32 % 2) := by
 have := bit_and 0 a.toNat (by omega)
 rwa [show ((a.toNat : Nat) : Int) = a by omega] at this

theorem and_65535 (f : Int) : bits .and .i64 f 65535 = f % 65536 := and_turn f

theorem turned_c (f a : Int) (hf : 0 ≤ f ∧ f ≤ 65535) (ha : 0 ≤ a ∧ a ≤ 63) (w : World) :
 Calls Tryz.prog 103 #[.int .i64 f, .int .u8 a] w fun e w' => e = .returned (.int .i64 (turnI f a)) ∧ w = w' := by
 obtain ⟨b1, b2, _⟩ := bits_of ha
 unfold turnI
 have e1 : a % 2 = 0 ∨ a % 2 = 1 := by omega
 have e2 : a / 2 % 2 = 0 ∨ a / 2 % 2 = 1 := by omega
 rcases e1 with e1 | e1 <;> rcases e2 with e2 | e2 <;> rw [e1] at b1 ⊢ <;> rw [e2] at b2 ⊢
 · have hA := and_65535 f
   go_enter Tryz.func103, Tryz.ntmps103
   go_wp2
   go_ret
   exact ⟨ret_int (by omega), rfl⟩
 · have hA := and_65535 (f + 1024)
   go_enter Tryz.func103, Tryz.ntmps103
   go_wp2
   go_ret
   exact ⟨ret_int (by omega), rfl⟩
 · have hA := and_65535 (f - 1024)
   go_enter Tryz.func103, Tryz.ntmps103
   go_wp2
   go_ret
   exact ⟨ret_int (by omega), rfl⟩
 · have hA := and_65535 f
   go_enter Tryz.func103, Tryz.ntmps103
   go_wp2
   go_ret
   exact ⟨ret_int (by omega), rfl⟩

theorem heading_c (f : Int) (w : World) :
 Calls Tryz.prog 141 #[.int .i64 f] w fun e w' => e = .returned (vec (waveI (f + 16384)) (waveI f)) ∧ Below w.heap.size w w' := by
 go_enter Tryz.func141, Tryz.ntmps141
 go_wp2_with (first
  | (go_at_call 168; ((with_reducible refine (cos_c _ _).mono ?_); rintro e w' ⟨rfl, rfl⟩))
  | (go_at_call 169; ((with_reducible refine (sin_c _ _).mono ?_); rintro e w' ⟨rfl, rfl⟩)))
 refine bodyPost_ret (Sh.results_vec rfl _ _ w.heap.size rfl _ _ (Sh.At.new w _ _)) rfl ?_
 exact ⟨rfl, Ev.bal (Ev.br w) _⟩

theorem results_box1 {fn : Func} {k : Nat} (h : fn.results = #[.cell k 162]) (tmps : Array Value) (W : World) (b : Nat) (hp : tmps[k]?.getD undef = .pointer (some ⟨b, 0, none⟩)) (v0 v1 v2 v3 : Value) (hA : At W b #[v0, v1, v2, v3] 162) :
 (results fn tmps).run Tryz.prog W = .ok (.agg #[v0, v1, v2, v3]) W := by
 obtain ⟨c0, c1, c2, c3⟩ := hA.four
 simp [results, h, hp, go_sem, c0, c1, c2, c3]

theorem arena_c (w : World) :
 Calls Tryz.prog 111 #[] w fun e w' => e = .returned abox ∧ Below w.heap.size w w' := by
 go_enter Tryz.func111, Tryz.ntmps111
 go_wp2_with fail
 refine bodyPost_ret (results_box1 rfl _ _ w.heap.size rfl _ _ _ _ (At.new w _ _)) rfl ?_
 exact ⟨rfl, Ev.bal (Ev.br w) _⟩

theorem playersbox_c (w : World) :
 Calls Tryz.prog 137 #[] w fun e w' => e = .returned pbox ∧ Below w.heap.size w w' := by
 have hA := hid (At.new w #[.int .i32 0, .int .i32 0, .int .i32 0, .int .i32 0] 162)
 have hB := hid (Ev.bal (Ev.br w) (.cells #[.int .i32 0, .int .i32 0, .int .i32 0, .int .i32 0] 162))
 go_enter Tryz.func137, Tryz.ntmps137
 go_upto_region 1 with fail
 generalize World.alloc w _ = w0 at hA hB ⊢
 have hS := fun W => Sh.shrink_yes (-4194304) (-4194304) 4194304 4194304 262144 (by decide) (by decide) (by decide) (by decide) (by decide) (by decide +kernel) W
 rw [show satI (-4194304 + 262144) = -3932160 by decide +kernel, show satI (4194304 - 262144) = 3932160 by decide +kernel] at hS
 go_upto_region 2 with (first
  | (go_at_call 111; ((with_reducible refine (arena_c _).mono ?_); rintro e w1 ⟨rfl, g1⟩; have HA := hid (hA.out.below g1); have HB := hid (Ev.bt hB.out g1)))
  | (go_at_call 166; ((with_reducible refine (hS _).mono ?_); rintro e w2 ⟨rfl, g2⟩; have HA2 := hid (HA.out.below g2); have HB2 := hid (Ev.bt HB.out g2))))
 have HA3 := hid (HA2.out.more (.cells #[.int .i32 (-3932160), .int .i32 (-3932160), .int .i32 3932160, .int .i32 3932160] 162))
 have HB3 := hid (Ev.bal HB2.out (.cells #[.int .i32 (-3932160), .int .i32 (-3932160), .int .i32 3932160, .int .i32 3932160] 162))
 have HN := hid (At.new w2 #[.int .i32 (-3932160), .int .i32 (-3932160), .int .i32 3932160, .int .i32 3932160] 162)
 have hlt := HA2.out.lt
 clear HA HB HA2 HB2
 generalize World.alloc w2 _ = w3 at HA3 HB3 HN ⊢
 obtain ⟨c0, c1, c2, c3⟩ := HN.out.four
 obtain ⟨d0, d1, d2, d3⟩ := HA3.out.four
 have f := HA3.out.frozen
 go_wp2_with fail
 refine bodyPost_ret (results_box1 rfl _ _ w.heap.size rfl _ _ _ _ (HA3.out.put4 _ _ _ _)) rfl ?_
 exact ⟨rfl, Sh.bset4 HB3.out (Nat.le_refl _) _ _ _ _⟩

theorem pan_div (x : Int) (h : -4194304 ≤ x ∧ x ≤ 4194304) : divI x 8388608 = x / 128 := by
 have e : x * 65536 / 8388608 = x / 128 := by omega
 have h0 : ¬ ((8388608 : Int) = 0) := by decide
 have h1 : (0 : Int) < 8388608 := by decide
 unfold divI downI
 rw [if_neg h0, if_pos h1, e]
 unfold satI
 rw [if_neg (by omega), if_neg (by omega)]
theorem pan_c (x y : Int) (h : -4194304 ≤ x ∧ x ≤ 4194304) (w : World) :
 Calls Tryz.prog 148 #[vec x y] w fun e w' => e = .returned (.int .i64 (x / 128)) ∧ Below w.heap.size w w' := by
 have hd := pan_div x h
 go_enter Tryz.func148, Tryz.ntmps148
 go_wp2_with (go_at_call 179; ((with_reducible refine (div_c _ _ (by omega) (by omega) _).mono ?_); rintro e w' ⟨rfl, rfl⟩; rw [hd]))
 go_ret
 exact ⟨ret_int (by omega), Ev.bal (Ev.br w) _⟩

end Go.Proofs.YtfclnhmijjlhdaaGreatDoor.Gm

namespace Go.Proofs.YtfclnhmijjlhdaaGreatDoor.Gm
open Go.RowKit Go.Proofs.YtfclnhmijjlhdaaGreatDoor.Fx Go.Proofs.YtfclnhmijjlhdaaGreatDoor.Tg Go.Proofs.YtfclnhmijjlhdaaGreatDoor.Dc
open Go.Proofs.YtfclnhmijjlhdaaGreatDoor.Ev (Ev Ky addR pageI At ecs Pg Evs)
open Go.Proofs.YtfclnhmijjlhdaaGreatDoor.Sh (In32 vec box insideB touchB slI mvP mvV wallI)
open Go.Proofs.YtfclnhmijjlhdaaGreatDoor.Rg (Keeps Foot Held)
set_option linter.unusedVariables false

theorem snd_cells {w : World} (h : Tab w) {k : Nat} (h1 : 1 ≤ k) (hk : k < 10) : w.cell? ⟨1, k * 9, none⟩ = some (.int .i64 0) ∧ w.cell? ⟨1, k * 9 + 1, none⟩ = some (.int .i64 0) ∧ w.cell? ⟨1, k * 9 + 2, none⟩ = some (.int .i64 0) ∧ w.cell? ⟨1, k * 9 + 3, none⟩ = some (.int .i64 0) ∧ w.cell? ⟨1, k * 9 + 4, none⟩ = some (.int .i64 k) ∧ w.cell? ⟨1, k * 9 + 5, none⟩ = some (.int .i64 (gainI k)) ∧ w.cell? ⟨1, k * 9 + 6, none⟩ = some (.int .i64 0) ∧ w.cell? ⟨1, k * 9 + 7, none⟩ = some (.int .i64 (prioI k)) ∧ w.cell? ⟨1, k * 9 + 8, none⟩ = some (.int .i64 (longI k)) := by
 have hs : sndE k = ⟨⟨0, 0, 0, 0⟩, k, gainI k, 0, prioI k, longI k⟩ := by unfold sndE; rw [if_neg (by omega)]
 have hc := fun j v hv => h.snd k j v hk hv
 rw [hs] at hc
 exact ⟨hc 0 _ rfl, hc 1 _ rfl, hc 2 _ rfl, hc 3 _ rfl, hc 4 _ rfl, hc 5 _ rfl, hc 6 _ rfl, hc 7 _ rfl, hc 8 _ rfl⟩

theorem eat {W : World} {B : Nat} {x : Ev} (h : At W B (ecs x).toArray 120) : W.cell? ⟨B, 0, none⟩ = some (.int .i64 x.key.f) ∧ W.cell? ⟨B, 1, none⟩ = some (.int .i64 x.key.e) ∧ W.cell? ⟨B, 2, none⟩ = some (.int .i64 x.key.k) ∧ W.cell? ⟨B, 3, none⟩ = some (.int .i64 x.key.o) ∧ W.cell? ⟨B, 4, none⟩ = some (.int .i64 x.a) ∧ W.cell? ⟨B, 5, none⟩ = some (.int .i64 x.g) ∧ W.cell? ⟨B, 6, none⟩ = some (.int .i64 x.p) ∧ W.cell? ⟨B, 7, none⟩ = some (.int .i64 x.r) ∧ W.cell? ⟨B, 8, none⟩ = some (.int .i64 x.l) := At.nine h

/-- what Add leaves of a step on its way, and of the event's own block. -/
theorem add_gs {w W : World} {n b pb : Nat} {s : St} {l : List Ev} (h : Gs w n b pb s l) (e : Ev) :
 Calls Tryz.prog 149 #[.pointer (some ⟨pb, 0, none⟩), Ev.ev e] w fun r w' => r = .returned (.tuple #[Ev.kv (addR s.fr l e).2.1, .int .i64 (addR s.fr l e).2.2]) ∧
  Gs w' n b pb s (addR s.fr l e).1 ∧ Kt n w w' ∧ ∀ B x, At w B (ecs x).toArray 120 → (∀ a cap, Pg w n pb s.fr (some a) cap l → a.block ≠ B) → At w' B (ecs x).toArray 120 := by
 obtain ⟨ao, cap, hp⟩ := h.pg
 refine (Ev.add_c e w hp h.size h.inv.2.1 h.inv.2.2.1).mono ?_
 rintro r w' ⟨rfl, ao', cap', hp', _, hk⟩
 have hB : Below n w w' := hk.below h.size (fun k hk => hp.footGe k hk)
 have hfoot : ∀ k cs T, At w k cs T → T ≠ 153 → T ≠ 120 → ¬ Foot pb ao k := by
  rintro k cs T hx h1 h2 (rfl | ⟨a, ha, rfl⟩)
  · have hx' : w.heap[k]? = some (.cells cs T (0, 0)) := hx
    have := hx'.symm.trans hp.block
    simp at this
    exact h1 this.2
  · rcases hp.form with ⟨e1, _⟩ | ⟨g, cur, e1, _, hg, _⟩
    · rw [e1] at ha; cases ha
    · rw [e1] at ha
      cases ha
      have hx' : w.heap[g]? = some (.cells cs T (0, 0)) := hx
      have := hx'.symm.trans hg
      simp at this
      exact h2 this.2
 have hoth : ∀ k cs T, At w k cs T → T ≠ 153 → T ≠ 120 → At w' k cs T := fun k cs T hx h1 h2 => (hk.block k hx.lt (hfoot k cs T hx h1 h2)).trans hx
 refine ⟨rfl, ⟨h.tab.below h.two hB, hoth b _ _ h.blk (by decide) (by decide), ⟨ao', cap', hp'⟩, Ev.add_inv h.inv e, h.ge, h.two⟩, ⟨hB, fun k cs T hx _ h1 h2 => hoth k cs T hx h1 h2⟩, ?_⟩
 intro B x hx ha
 refine (hk.block B hx.lt ?_).trans hx
 rintro (rfl | ⟨a, e1, rfl⟩)
 · have hx' : w.heap[B]? = some (.cells _ _ (0, 0)) := hx
   have := hx'.symm.trans hp.block
   simp at this
 · subst e1
   exact ha a cap hp rfl

theorem pg_lt {w W : World} {n b pb : Nat} {s : St} {l : List Ev} (h : Gs w n b pb s l) (g : Below w.heap.size w W) : ∀ a cap, Pg W n pb s.fr (some a) cap l → a.block < w.heap.size := by
 obtain ⟨ao, cap0, hp⟩ := h.pg
 intro a cap hp'
 have h1 := (hp.old g).block.symm.trans hp'.block
 simp at h1
 exact hp.footLt a.block (.inr ⟨a, h1.1, rfl⟩)

theorem pan1 (x : Int) : panI 1 x = x / 128 := rfl
theorem pan2 (x : Int) : panI 2 x = x / 128 := rfl

set_option maxRecDepth 100000 in
set_option maxHeartbeats 1000000 in
theorem tell0_c (k : Nat) (h1 : 1 ≤ k) (hk : k < 10) (w : World) {n b pb : Nat} {s : St} {l : List Ev} (h : Gs w n b pb s l) :
 Calls Tryz.prog 108 #[.pointer (some ⟨b, 0, none⟩), .int .i64 0, .int .i64 k] w fun e w' => e = .returned (.tuple #[]) ∧ Gk w w' n b pb s (tel s.fr l 0 k 0) := by
 have HG := hid h
 obtain ⟨s0, s1, s2, s3, s4, s5, s6, s7, s8⟩ := snd_cells h.tab h1 hk
 have hk0 : (0 : Int) ≤ (k : Int) := by omega
 have hk1 : (k : Int) < 10 := by omega
 have hnew : Hid (∀ W, Below w.heap.size w W → ∀ a cap, Pg W n pb s.fr (some a) cap l → a.block < w.heap.size) := hid (fun W g => pg_lt h g)
 go_enter Tryz.func108, Tryz.ntmps108
 go_upto_region 4 with fail
 have HE := hid (At.new w (ecs (evt 0 k 0)).toArray 120)
 have HG0 := hid (HG.out.below (Ev.bal (Ev.br w) (.cells (ecs (evt 0 k 0)).toArray 120)))
 simp only [evt, panI, if_true] at HE HG0
 have HB0 := hid (Ev.bal (Ev.br w) (.cells (ecs (evt 0 k 0)).toArray 120))
 simp only [evt, panI, if_true] at HB0
 generalize World.alloc w _ = w0 at HE HG0 HB0 ⊢
 have HA : Hid (∀ W, Below w0.heap.size w0 W → At W w.heap.size (ecs (evt 0 k 0)).toArray 120) := hid (fun W g => HE.out.below g)
 have HGs : Hid (∀ W, Below w0.heap.size w0 W → Gs W n b pb s l) := hid (fun W g => HG0.out.below g)
 have hS0 := eat (HA.out w0 (Ev.br _))
 obtain ⟨_, _, _, _, q4⟩ := (HGs.out w0 (Ev.br _)).hd
 simp only [evt, panI, if_true] at hS0
 obtain ⟨r0, r1, r2, r3, r4, r5, r6, r7, r8⟩ := hS0
 clear s0 s1 s2 s3 s4 s5 s6 s7 s8
 go_region_held3 (fun W => W.cell? ⟨b, 60, none⟩ = some (.pointer (some ⟨pb, 0, none⟩)) ∧ W.cell? ⟨w.heap.size, 0, none⟩ = some (.int .i64 0) ∧ W.cell? ⟨w.heap.size, 1, none⟩ = some (.int .i64 0) ∧ W.cell? ⟨w.heap.size, 2, none⟩ = some (.int .i64 k) ∧ W.cell? ⟨w.heap.size, 3, none⟩ = some (.int .i64 0) ∧ W.cell? ⟨w.heap.size, 4, none⟩ = some (.int .i64 k) ∧ W.cell? ⟨w.heap.size, 5, none⟩ = some (.int .i64 (gainI k)) ∧ W.cell? ⟨w.heap.size, 6, none⟩ = some (.int .i64 0) ∧ W.cell? ⟨w.heap.size, 7, none⟩ = some (.int .i64 (prioI k)) ∧ W.cell? ⟨w.heap.size, 8, none⟩ = some (.int .i64 (longI k)))
  (go_keep)
  (first
   | (go_at_call 149; (refine (add_gs (W := w) (HGs.out _ (by first | exact Ev.bdn (Ev.br _) _ | exact Ev.bd1 (Ev.br _) | exact Ev.br _)) (evt 0 k 0)).mono ?_); rintro r w2 ⟨rfl, hg2, hk2, hx2⟩; have hx3 := eat (hx2 w.heap.size _ (HA.out _ (Ev.bd1 (Ev.br _))) (fun a cap hp => Nat.ne_of_lt (hnew.out _ (Ev.bd1 HB0.out) a cap hp))); simp only [evt, panI, if_true] at hx3; have hSS := And.intro hg2.hd.2.2.2.2 hx3; clear hx2 hx3))
 go_wp2_with fail
 go_end0
 exact ⟨rfl, hg2, (Kt.ofBelow HG.out.size HB0.out).trans ((Kt.ofBelow HG0.out.size (Ev.bd1 (Ev.br _))).trans hk2)⟩


set_option maxRecDepth 100000 in
set_option maxHeartbeats 1000000 in
theorem tell1_c (k : Nat) (h1 : 1 ≤ k) (hk : k < 10) (w : World) {n b pb : Nat} {s : St} {l : List Ev} (h : Gs w n b pb s l) (hx : -4194304 ≤ s.p0.ax ∧ s.p0.ax ≤ 4194304) :
 Calls Tryz.prog 108 #[.pointer (some ⟨b, 0, none⟩), .int .i64 1, .int .i64 k] w fun e w' => e = .returned (.tuple #[]) ∧ Gk w w' n b pb s (tel s.fr l 1 k s.p0.ax) := by
 have HG := hid h
 obtain ⟨s0, s1, s2, s3, s4, s5, s6, s7, s8⟩ := snd_cells h.tab h1 hk
 have hk0 : (0 : Int) ≤ (k : Int) := by omega
 have hk1 : (k : Int) < 10 := by omega
 have hnew : Hid (∀ W, Below w.heap.size w W → ∀ a cap, Pg W n pb s.fr (some a) cap l → a.block < w.heap.size) := hid (fun W g => pg_lt h g)
 go_enter Tryz.func108, Tryz.ntmps108
 go_upto_region 2 with fail
 have HE := hid (At.new w (ecs ⟨⟨0, 1, k, 0⟩, k, gainI k, 0, prioI k, longI k⟩).toArray 120)
 have HB0 := hid (Ev.bal (Ev.br w) (.cells (ecs ⟨⟨0, 1, k, 0⟩, k, gainI k, 0, prioI k, longI k⟩).toArray 120))
 have HG0 := hid (HG.out.below HB0.out)
 generalize World.alloc w _ = w0 at HE HG0 HB0 ⊢
 have hp := HG0.out.p0
 obtain ⟨a0, a1, _⟩ := hp
 have hfz := HE.out.frozen 6
 have hc6 := (At.nine HE.out).2.2.2.2.2.2.1
 clear s0 s1 s2 s3 s4 s5 s6 s7 s8
 go_upto_region 4 with (go_at_call 148; ((with_reducible refine (pan_c _ _ hx _).mono ?_); rintro r w1 ⟨rfl, g1⟩; have HE1 := hid (HE.out.below g1); have HG1 := hid (HG0.out.below g1); have HB1 := hid (Ev.bt HB0.out g1); have hc61 := (At.nine HE1.out).2.2.2.2.2.2.1; have hfz1 := HE1.out.frozen 6))
 have HE2 : Hid (At (w1.setCell ⟨w.heap.size, 6, none⟩ (.int .i64 (s.p0.ax / 128))) w.heap.size (ecs (evt 1 k s.p0.ax)).toArray 120) := hid (heap_setCell_same w1 w.heap.size 6 _ _ (.int .i64 (s.p0.ax / 128)) HE1.out)
 have HB2 : Hid (Below w.heap.size w (w1.setCell ⟨w.heap.size, 6, none⟩ (.int .i64 (s.p0.ax / 128)))) := hid (HB1.out.setCell (p := ⟨w.heap.size, 6, none⟩) (Nat.le_refl _) _)
 have HG2 := hid (HG.out.below HB2.out)
 clear HE HE1 HG0 HG1 HB0 HB1 hc6 hc61 hfz hfz1 a0 a1
 generalize World.setCell w1 _ _ = w0 at HE2 HG2 HB2 ⊢
 have HE := HE2
 have HG0 := HG2
 have HB0 := HB2
 clear HE2 HG2 HB2
 have HA : Hid (∀ W, Below w0.heap.size w0 W → At W w.heap.size (ecs (evt 1 k s.p0.ax)).toArray 120) := hid (fun W g => HE.out.below g)
 have HGs : Hid (∀ W, Below w0.heap.size w0 W → Gs W n b pb s l) := hid (fun W g => HG0.out.below g)
 have hS0 := eat (HA.out w0 (Ev.br _))
 obtain ⟨_, _, _, _, q4⟩ := (HGs.out w0 (Ev.br _)).hd
 simp only [evt, pan1] at hS0
 obtain ⟨r0, r1, r2, r3, r4, r5, r6, r7, r8⟩ := hS0
 go_region_held3 (fun W => W.cell? ⟨b, 60, none⟩ = some (.pointer (some ⟨pb, 0, none⟩)) ∧ W.cell? ⟨w.heap.size, 0, none⟩ = some (.int .i64 0) ∧ W.cell? ⟨w.heap.size, 1, none⟩ = some (.int .i64 1) ∧ W.cell? ⟨w.heap.size, 2, none⟩ = some (.int .i64 k) ∧ W.cell? ⟨w.heap.size, 3, none⟩ = some (.int .i64 0) ∧ W.cell? ⟨w.heap.size, 4, none⟩ = some (.int .i64 k) ∧ W.cell? ⟨w.heap.size, 5, none⟩ = some (.int .i64 (gainI k)) ∧ W.cell? ⟨w.heap.size, 6, none⟩ = some (.int .i64 (s.p0.ax / 128)) ∧ W.cell? ⟨w.heap.size, 7, none⟩ = some (.int .i64 (prioI k)) ∧ W.cell? ⟨w.heap.size, 8, none⟩ = some (.int .i64 (longI k)))
  (go_keep)
  (first
   | (go_at_call 149; (refine (add_gs (W := w) (HGs.out _ (by first | exact Ev.bdn (Ev.br _) _ | exact Ev.bd1 (Ev.br _) | exact Ev.br _)) (evt 1 k s.p0.ax)).mono ?_); rintro r w2 ⟨rfl, hg2, hk2, hx2⟩; have hx3 := eat (hx2 w.heap.size _ (HA.out _ (Ev.bd1 (Ev.br _))) (fun a cap hp => Nat.ne_of_lt (hnew.out _ (Ev.bd1 HB0.out) a cap hp))); simp only [evt, pan1] at hx3; have hSS := And.intro hg2.hd.2.2.2.2 hx3; clear hx2 hx3))
 go_wp2_with fail
 go_end0
 exact ⟨rfl, hg2, (Kt.ofBelow HG.out.size HB0.out).trans ((Kt.ofBelow HG0.out.size (Ev.bd1 (Ev.br _))).trans hk2)⟩


set_option maxRecDepth 100000 in
set_option maxHeartbeats 1000000 in
theorem tell2_c (k : Nat) (h1 : 1 ≤ k) (hk : k < 10) (w : World) {n b pb : Nat} {s : St} {l : List Ev} (h : Gs w n b pb s l) (hx : -4194304 ≤ s.p1.ax ∧ s.p1.ax ≤ 4194304) :
 Calls Tryz.prog 108 #[.pointer (some ⟨b, 0, none⟩), .int .i64 2, .int .i64 k] w fun e w' => e = .returned (.tuple #[]) ∧ Gk w w' n b pb s (tel s.fr l 2 k s.p1.ax) := by
 have HG := hid h
 obtain ⟨s0, s1, s2, s3, s4, s5, s6, s7, s8⟩ := snd_cells h.tab h1 hk
 have hk0 : (0 : Int) ≤ (k : Int) := by omega
 have hk1 : (k : Int) < 10 := by omega
 have hnew : Hid (∀ W, Below w.heap.size w W → ∀ a cap, Pg W n pb s.fr (some a) cap l → a.block < w.heap.size) := hid (fun W g => pg_lt h g)
 go_enter Tryz.func108, Tryz.ntmps108
 go_upto_region 2 with fail
 have HE := hid (At.new w (ecs ⟨⟨0, 2, k, 0⟩, k, gainI k, 0, prioI k, longI k⟩).toArray 120)
 have HB0 := hid (Ev.bal (Ev.br w) (.cells (ecs ⟨⟨0, 2, k, 0⟩, k, gainI k, 0, prioI k, longI k⟩).toArray 120))
 have HG0 := hid (HG.out.below HB0.out)
 generalize World.alloc w _ = w0 at HE HG0 HB0 ⊢
 have hp := HG0.out.p1
 obtain ⟨a0, a1, _⟩ := hp
 have hfz := HE.out.frozen 6
 have hc6 := (At.nine HE.out).2.2.2.2.2.2.1
 clear s0 s1 s2 s3 s4 s5 s6 s7 s8
 go_upto_region 4 with (go_at_call 148; ((with_reducible refine (pan_c _ _ hx _).mono ?_); rintro r w1 ⟨rfl, g1⟩; have HE1 := hid (HE.out.below g1); have HG1 := hid (HG0.out.below g1); have HB1 := hid (Ev.bt HB0.out g1); have hc61 := (At.nine HE1.out).2.2.2.2.2.2.1; have hfz1 := HE1.out.frozen 6))
 have HE2 : Hid (At (w1.setCell ⟨w.heap.size, 6, none⟩ (.int .i64 (s.p1.ax / 128))) w.heap.size (ecs (evt 2 k s.p1.ax)).toArray 120) := hid (heap_setCell_same w1 w.heap.size 6 _ _ (.int .i64 (s.p1.ax / 128)) HE1.out)
 have HB2 : Hid (Below w.heap.size w (w1.setCell ⟨w.heap.size, 6, none⟩ (.int .i64 (s.p1.ax / 128)))) := hid (HB1.out.setCell (p := ⟨w.heap.size, 6, none⟩) (Nat.le_refl _) _)
 have HG2 := hid (HG.out.below HB2.out)
 clear HE HE1 HG0 HG1 HB0 HB1 hc6 hc61 hfz hfz1 a0 a1
 generalize World.setCell w1 _ _ = w0 at HE2 HG2 HB2 ⊢
 have HE := HE2
 have HG0 := HG2
 have HB0 := HB2
 clear HE2 HG2 HB2
 have HA : Hid (∀ W, Below w0.heap.size w0 W → At W w.heap.size (ecs (evt 2 k s.p1.ax)).toArray 120) := hid (fun W g => HE.out.below g)
 have HGs : Hid (∀ W, Below w0.heap.size w0 W → Gs W n b pb s l) := hid (fun W g => HG0.out.below g)
 have hS0 := eat (HA.out w0 (Ev.br _))
 obtain ⟨_, _, _, _, q4⟩ := (HGs.out w0 (Ev.br _)).hd
 simp only [evt, pan2] at hS0
 obtain ⟨r0, r1, r2, r3, r4, r5, r6, r7, r8⟩ := hS0
 go_region_held3 (fun W => W.cell? ⟨b, 60, none⟩ = some (.pointer (some ⟨pb, 0, none⟩)) ∧ W.cell? ⟨w.heap.size, 0, none⟩ = some (.int .i64 0) ∧ W.cell? ⟨w.heap.size, 1, none⟩ = some (.int .i64 2) ∧ W.cell? ⟨w.heap.size, 2, none⟩ = some (.int .i64 k) ∧ W.cell? ⟨w.heap.size, 3, none⟩ = some (.int .i64 0) ∧ W.cell? ⟨w.heap.size, 4, none⟩ = some (.int .i64 k) ∧ W.cell? ⟨w.heap.size, 5, none⟩ = some (.int .i64 (gainI k)) ∧ W.cell? ⟨w.heap.size, 6, none⟩ = some (.int .i64 (s.p1.ax / 128)) ∧ W.cell? ⟨w.heap.size, 7, none⟩ = some (.int .i64 (prioI k)) ∧ W.cell? ⟨w.heap.size, 8, none⟩ = some (.int .i64 (longI k)))
  (go_keep)
  (first
   | (go_at_call 149; (refine (add_gs (W := w) (HGs.out _ (by first | exact Ev.bdn (Ev.br _) _ | exact Ev.bd1 (Ev.br _) | exact Ev.br _)) (evt 2 k s.p1.ax)).mono ?_); rintro r w2 ⟨rfl, hg2, hk2, hx2⟩; have hx3 := eat (hx2 w.heap.size _ (HA.out _ (Ev.bd1 (Ev.br _))) (fun a cap hp => Nat.ne_of_lt (hnew.out _ (Ev.bd1 HB0.out) a cap hp))); simp only [evt, pan2] at hx3; have hSS := And.intro hg2.hd.2.2.2.2 hx3; clear hx2 hx3))
 go_wp2_with fail
 go_end0
 exact ⟨rfl, hg2, (Kt.ofBelow HG.out.size HB0.out).trans ((Kt.ofBelow HG0.out.size (Ev.bd1 (Ev.br _))).trans hk2)⟩


end Go.Proofs.YtfclnhmijjlhdaaGreatDoor.Gm

namespace Go.Proofs.YtfclnhmijjlhdaaGreatDoor.Gm
open Go.RowKit Go.Proofs.YtfclnhmijjlhdaaGreatDoor.Fx Go.Proofs.YtfclnhmijjlhdaaGreatDoor.Tg Go.Proofs.YtfclnhmijjlhdaaGreatDoor.Dc
open Go.Proofs.YtfclnhmijjlhdaaGreatDoor.Ev (Ev Ky addR pageI At ecs Pg Evs)
open Go.Proofs.YtfclnhmijjlhdaaGreatDoor.Sh (In32 vec box insideB touchB slI mvP mvV wallI)
set_option linter.unusedVariables false

theorem tl0_4 {w : World} {n b pb : Nat} {s : St} {l : List Ev} (h : Gs w n b pb s l) :
 Calls Tryz.prog 108 #[.pointer (some ⟨b, 0, none⟩), .int .i64 0, .int .i64 4] w fun e w' => e = .returned (.tuple #[]) ∧ Gk w w' n b pb s (tel s.fr l 0 4 0) := tell0_c 4 (by decide) (by decide) w h

theorem tl0_7 {w : World} {n b pb : Nat} {s : St} {l : List Ev} (h : Gs w n b pb s l) :
 Calls Tryz.prog 108 #[.pointer (some ⟨b, 0, none⟩), .int .i64 0, .int .i64 7] w fun e w' => e = .returned (.tuple #[]) ∧ Gk w w' n b pb s (tel s.fr l 0 7 0) := tell0_c 7 (by decide) (by decide) w h

theorem tl1_1 {w : World} {n b pb : Nat} {s : St} {l : List Ev} (h : Gs w n b pb s l) (hx : -4194304 ≤ s.p0.ax ∧ s.p0.ax ≤ 4194304) :
 Calls Tryz.prog 108 #[.pointer (some ⟨b, 0, none⟩), .int .i64 1, .int .i64 1] w fun e w' => e = .returned (.tuple #[]) ∧ Gk w w' n b pb s (tel s.fr l 1 1 s.p0.ax) := tell1_c 1 (by decide) (by decide) w h hx

theorem tl1_2 {w : World} {n b pb : Nat} {s : St} {l : List Ev} (h : Gs w n b pb s l) (hx : -4194304 ≤ s.p0.ax ∧ s.p0.ax ≤ 4194304) :
 Calls Tryz.prog 108 #[.pointer (some ⟨b, 0, none⟩), .int .i64 1, .int .i64 2] w fun e w' => e = .returned (.tuple #[]) ∧ Gk w w' n b pb s (tel s.fr l 1 2 s.p0.ax) := tell1_c 2 (by decide) (by decide) w h hx

theorem tl1_3 {w : World} {n b pb : Nat} {s : St} {l : List Ev} (h : Gs w n b pb s l) (hx : -4194304 ≤ s.p0.ax ∧ s.p0.ax ≤ 4194304) :
 Calls Tryz.prog 108 #[.pointer (some ⟨b, 0, none⟩), .int .i64 1, .int .i64 3] w fun e w' => e = .returned (.tuple #[]) ∧ Gk w w' n b pb s (tel s.fr l 1 3 s.p0.ax) := tell1_c 3 (by decide) (by decide) w h hx

theorem tl1_5 {w : World} {n b pb : Nat} {s : St} {l : List Ev} (h : Gs w n b pb s l) (hx : -4194304 ≤ s.p0.ax ∧ s.p0.ax ≤ 4194304) :
 Calls Tryz.prog 108 #[.pointer (some ⟨b, 0, none⟩), .int .i64 1, .int .i64 5] w fun e w' => e = .returned (.tuple #[]) ∧ Gk w w' n b pb s (tel s.fr l 1 5 s.p0.ax) := tell1_c 5 (by decide) (by decide) w h hx

theorem tl1_6 {w : World} {n b pb : Nat} {s : St} {l : List Ev} (h : Gs w n b pb s l) (hx : -4194304 ≤ s.p0.ax ∧ s.p0.ax ≤ 4194304) :
 Calls Tryz.prog 108 #[.pointer (some ⟨b, 0, none⟩), .int .i64 1, .int .i64 6] w fun e w' => e = .returned (.tuple #[]) ∧ Gk w w' n b pb s (tel s.fr l 1 6 s.p0.ax) := tell1_c 6 (by decide) (by decide) w h hx

theorem tl1_8 {w : World} {n b pb : Nat} {s : St} {l : List Ev} (h : Gs w n b pb s l) (hx : -4194304 ≤ s.p0.ax ∧ s.p0.ax ≤ 4194304) :
 Calls Tryz.prog 108 #[.pointer (some ⟨b, 0, none⟩), .int .i64 1, .int .i64 8] w fun e w' => e = .returned (.tuple #[]) ∧ Gk w w' n b pb s (tel s.fr l 1 8 s.p0.ax) := tell1_c 8 (by decide) (by decide) w h hx

theorem tl1_9 {w : World} {n b pb : Nat} {s : St} {l : List Ev} (h : Gs w n b pb s l) (hx : -4194304 ≤ s.p0.ax ∧ s.p0.ax ≤ 4194304) :
 Calls Tryz.prog 108 #[.pointer (some ⟨b, 0, none⟩), .int .i64 1, .int .i64 9] w fun e w' => e = .returned (.tuple #[]) ∧ Gk w w' n b pb s (tel s.fr l 1 9 s.p0.ax) := tell1_c 9 (by decide) (by decide) w h hx

theorem tl2_1 {w : World} {n b pb : Nat} {s : St} {l : List Ev} (h : Gs w n b pb s l) (hx : -4194304 ≤ s.p1.ax ∧ s.p1.ax ≤ 4194304) :
 Calls Tryz.prog 108 #[.pointer (some ⟨b, 0, none⟩), .int .i64 2, .int .i64 1] w fun e w' => e = .returned (.tuple #[]) ∧ Gk w w' n b pb s (tel s.fr l 2 1 s.p1.ax) := tell2_c 1 (by decide) (by decide) w h hx

theorem tl2_2 {w : World} {n b pb : Nat} {s : St} {l : List Ev} (h : Gs w n b pb s l) (hx : -4194304 ≤ s.p1.ax ∧ s.p1.ax ≤ 4194304) :
 Calls Tryz.prog 108 #[.pointer (some ⟨b, 0, none⟩), .int .i64 2, .int .i64 2] w fun e w' => e = .returned (.tuple #[]) ∧ Gk w w' n b pb s (tel s.fr l 2 2 s.p1.ax) := tell2_c 2 (by decide) (by decide) w h hx

theorem tl2_3 {w : World} {n b pb : Nat} {s : St} {l : List Ev} (h : Gs w n b pb s l) (hx : -4194304 ≤ s.p1.ax ∧ s.p1.ax ≤ 4194304) :
 Calls Tryz.prog 108 #[.pointer (some ⟨b, 0, none⟩), .int .i64 2, .int .i64 3] w fun e w' => e = .returned (.tuple #[]) ∧ Gk w w' n b pb s (tel s.fr l 2 3 s.p1.ax) := tell2_c 3 (by decide) (by decide) w h hx

theorem tl2_5 {w : World} {n b pb : Nat} {s : St} {l : List Ev} (h : Gs w n b pb s l) (hx : -4194304 ≤ s.p1.ax ∧ s.p1.ax ≤ 4194304) :
 Calls Tryz.prog 108 #[.pointer (some ⟨b, 0, none⟩), .int .i64 2, .int .i64 5] w fun e w' => e = .returned (.tuple #[]) ∧ Gk w w' n b pb s (tel s.fr l 2 5 s.p1.ax) := tell2_c 5 (by decide) (by decide) w h hx

theorem tl2_6 {w : World} {n b pb : Nat} {s : St} {l : List Ev} (h : Gs w n b pb s l) (hx : -4194304 ≤ s.p1.ax ∧ s.p1.ax ≤ 4194304) :
 Calls Tryz.prog 108 #[.pointer (some ⟨b, 0, none⟩), .int .i64 2, .int .i64 6] w fun e w' => e = .returned (.tuple #[]) ∧ Gk w w' n b pb s (tel s.fr l 2 6 s.p1.ax) := tell2_c 6 (by decide) (by decide) w h hx

theorem tl2_8 {w : World} {n b pb : Nat} {s : St} {l : List Ev} (h : Gs w n b pb s l) (hx : -4194304 ≤ s.p1.ax ∧ s.p1.ax ≤ 4194304) :
 Calls Tryz.prog 108 #[.pointer (some ⟨b, 0, none⟩), .int .i64 2, .int .i64 8] w fun e w' => e = .returned (.tuple #[]) ∧ Gk w w' n b pb s (tel s.fr l 2 8 s.p1.ax) := tell2_c 8 (by decide) (by decide) w h hx

theorem tl2_9 {w : World} {n b pb : Nat} {s : St} {l : List Ev} (h : Gs w n b pb s l) (hx : -4194304 ≤ s.p1.ax ∧ s.p1.ax ≤ 4194304) :
 Calls Tryz.prog 108 #[.pointer (some ⟨b, 0, none⟩), .int .i64 2, .int .i64 9] w fun e w' => e = .returned (.tuple #[]) ∧ Gk w w' n b pb s (tel s.fr l 2 9 s.p1.ax) := tell2_c 9 (by decide) (by decide) w h hx

theorem Gs.ne {w : World} {n b pb : Nat} {s : St} {l : List Ev} {c : Nat} {cs : Array Value} {T : TypeId} (h : Gs w n b pb s l) (x : At w c cs T) (ht : T ≠ 113) : c ≠ b := by
 intro e
 subst e
 have hx : w.heap[c]? = some (.cells cs T (0, 0)) := x
 have := hx.symm.trans h.blk
 simp at this
 exact ht this.2
theorem bset_k {w W : World} {m b : Nat} (h : Below m w W) (hb : m ≤ b) (j : Nat) (v : Value) : Below m w (W.setCell ⟨b, j, none⟩ v) := h.setCell hb v

theorem em0 (w : World) : Calls Tryz.prog 140 #[.int .i64 0] w fun e w' => e = .returned (.int .i64 1) ∧ w = w' := emitter_c 0 (by decide) w
theorem em1 (w : World) : Calls Tryz.prog 140 #[.int .i64 1] w fun e w' => e = .returned (.int .i64 2) ∧ w = w' := emitter_c 1 (by decide) w

end Go.Proofs.YtfclnhmijjlhdaaGreatDoor.Gm
