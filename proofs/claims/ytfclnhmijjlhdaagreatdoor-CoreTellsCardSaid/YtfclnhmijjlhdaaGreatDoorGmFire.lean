/- The first free shot (layer 12, game). -/
import Derived.Test.YtfclnhmijjlhdaaGreatDoorJ10
import Derived.Test.YtfclnhmijjlhdaaGreatDoorGmRow
import Derived.Test.YtfclnhmijjlhdaaGreatDoorGmRight
import Derived.Deep.DeepCutAuto
import Derived.Deep.RegionWith
namespace Go.Proofs.YtfclnhmijjlhdaaGreatDoor.Gm
open Go.RowKit Go.Proofs.YtfclnhmijjlhdaaGreatDoor.Fx Go.Proofs.YtfclnhmijjlhdaaGreatDoor.Tg Go.Proofs.YtfclnhmijjlhdaaGreatDoor.Dc
open Go.Proofs.YtfclnhmijjlhdaaGreatDoor.Ev (Ev Ky addR pageI At ecs Pg Evs)
open Go.Proofs.YtfclnhmijjlhdaaGreatDoor.Sh (In32 vec box insideB touchB slI mvP mvV wallI)
set_option linter.unusedVariables false

/-- the cells of all shots. -/
def shC (s : St) : List Value := buC s.s0 ++ buC s.s1 ++ buC s.s2 ++ buC s.s3 ++ buC s.s4 ++ buC s.s5
theorem shC_len (s : St) : (shC s).length = 36 := rfl
theorem stC_sh (s : St) (q : Value) : ∀ j v, (shC s)[j]? = some v → ((stC s ++ [q]).toArray)[24 + j]? = some v := by
 intro j v hv
 have hj : j < 36 := (List.getElem?_eq_some_iff.1 hv).1
 have e : stC s = ([.int .i64 s.fr, .int .u32 s.di, .int .i64 s.rd, .int .i64 s.lf] ++ plC s.p0 ++ plC s.p1) ++ shC s := by
  unfold stC shC
  simp only [List.append_assoc]
 rw [List.getElem?_toArray, e, List.append_assoc, List.getElem?_append_right (by show 24 ≤ 24 + j; omega), show 24 + j - ([Value.int .i64 s.fr, .int .u32 s.di, .int .i64 s.rd, .int .i64 s.lf] ++ plC s.p0 ++ plC s.p1).length = j from by show 24 + j - 24 = j; omega, List.getElem?_append_left (by show j < 36; exact hj)]
 exact hv
theorem index_sh (s : St) (k : Nat) (hk : k < 6) (w : World) : (Instr.index 63 (.agg (shC s).toArray) (.int .i64 k)).run Tryz.prog w = .ok (buV (shS s k)) w := by
 have a4 := Tryz.isAgg62
 have z4 := Tryz.sizeOf62
 have hu := Tryz.underlying63
 have hh : k = 0 ∨ k = 1 ∨ k = 2 ∨ k = 3 ∨ k = 4 ∨ k = 5 := by omega
 unfold shC
 rcases hh with rfl | rfl | rfl | rfl | rfl | rfl
 all_goals
  simp [Instr.index, run_underlying hu, asIntOf, part, a4, z4, shS, go_sem]

theorem Gk.shotK {a w : World} {n b pb : Nat} {s : St} {l : List Ev} (h : Gk a w n b pb s l) (x : Bu) {k : Nat} (hk : k < 6) : Gk a ((((((w.setCell ⟨b, 24 + k * 6, none⟩ (.int .i32 x.ax)).setCell ⟨b, 24 + k * 6 + 1, none⟩ (.int .i32 x.ay)).setCell ⟨b, 24 + k * 6 + 2, none⟩ (.int .i32 x.vx)).setCell ⟨b, 24 + k * 6 + 3, none⟩ (.int .i32 x.vy)).setCell ⟨b, 24 + k * 6 + 4, none⟩ (.int .i64 x.ow)).setCell ⟨b, 24 + k * 6 + 5, none⟩ (.int .i64 x.li)) n b pb (setS s k x) l := by
 have hh : k = 0 ∨ k = 1 ∨ k = 2 ∨ k = 3 ∨ k = 4 ∨ k = 5 := by omega
 rcases hh with rfl | rfl | rfl | rfl | rfl | rfl
 · exact h.shot0 x
 · exact h.shot1 x
 · exact h.shot2 x
 · exact h.shot3 x
 · exact h.shot4 x
 · exact h.shot5 x
theorem Gs.bk {w : World} {n b pb : Nat} {s : St} {l : List Ev} (h : Gs w n b pb s l) {k : Nat} (hk : k < 6) : w.cell? ⟨b, 24 + k * 6, none⟩ = some (.int .i32 (shS s k).ax) ∧ w.cell? ⟨b, 24 + k * 6 + 1, none⟩ = some (.int .i32 (shS s k).ay) ∧ w.cell? ⟨b, 24 + k * 6 + 2, none⟩ = some (.int .i32 (shS s k).vx) ∧ w.cell? ⟨b, 24 + k * 6 + 3, none⟩ = some (.int .i32 (shS s k).vy) ∧ w.cell? ⟨b, 24 + k * 6 + 4, none⟩ = some (.int .i64 (shS s k).ow) ∧ w.cell? ⟨b, 24 + k * 6 + 5, none⟩ = some (.int .i64 (shS s k).li) := by
 have hh : k = 0 ∨ k = 1 ∨ k = 2 ∨ k = 3 ∨ k = 4 ∨ k = 5 := by omega
 rcases hh with rfl | rfl | rfl | rfl | rfl | rfl
 · exact h.b0
 · exact h.b1
 · exact h.b2
 · exact h.b3
 · exact h.b4
 · exact h.b5
theorem free_some {s : St} {k : Nat} (hk : k < 6) (h0 : (shS s k).ow = 0) (hr : ∀ j, j < k → (shS s j).ow ≠ 0) : freeS s = some k := by
 unfold freeS
 rw [List.find?_eq_some_iff_getElem]
 refine ⟨by simpa using h0, k, by simpa using hk, by simp, fun j hj => ?_⟩
 simpa using hr j hj
theorem Gk.other {a w : World} {n b pb C : Nat} {s : St} {l : List Ev} {cs : Array Value} {T : TypeId} (h : Gk a w n b pb s l) (x : At w C cs T) (h1 : T ≠ 113) (h2 : T ≠ 153) (h3 : T ≠ 120) (ha : a.heap.size ≤ C) (hn : n ≤ C) (j : Nat) (v : Value) : Gk a (w.setCell ⟨C, j, none⟩ v) n b pb s l := by
 obtain ⟨ao, cap, hp⟩ := h.gs.pg
 have hx : w.heap[C]? = some (.cells cs T (0, 0)) := x
 have hne := h.gs.ne x h1
 have hB : Below n w (w.setCell ⟨C, j, none⟩ v) := (Below.refl n w).setCell (p := ⟨C, j, none⟩) hn v
 have hk : Rg.Keeps (fun k => k = C) w (w.setCell ⟨C, j, none⟩ v) := (Rg.Keeps.refl (fun k => k = C) w).setCell (p := ⟨C, j, none⟩) (fun _ => rfl) v
 have hfoot : ∀ i, Rg.Foot pb ao i → ¬ i = C := by
  rintro i (rfl | ⟨a, hz, rfl⟩) e
  · subst e
    have := hp.block.symm.trans hx
    simp at this
    exact h2 this.2.symm
  · rcases hp.form with ⟨e1, _⟩ | ⟨g, cur, e1, _, hg, _⟩
    · rw [e1] at hz; cases hz
    · rw [e1] at hz
      cases hz
      simp only at e
      subst e
      have := hg.symm.trans hx
      simp at this
      exact h3 this.2.symm
 refine ⟨⟨h.gs.tab.below h.gs.two hB, h.gs.blk.far (Ne.symm hne) _, ⟨ao, cap, hp.keeps hk hfoot⟩, h.gs.inv, h.gs.ge, h.gs.two⟩, ⟨h.kt.old.trans hB, fun i cs' T' y e1 e2 e3 => (h.kt.oth i cs' T' y e1 e2 e3).far ?_ _⟩⟩
 have := y.lt
 omega
theorem mvP_bd (p v : Int) : -4194304 ≤ mvP p v (-3932160) 3932160 ∧ mvP p v (-3932160) 3932160 ≤ 4194304 := by
 unfold mvP
 split
 · decide
 · split
   · decide
   · omega
theorem slow_bd (z x y : Int) (hz : In32 z) : In32 (slI z x y 131072) := by
 unfold slI
 split
 · unfold stepI
   split
   · decide
   · unfold divI
     split
     · unfold endI
       repeat' split
       all_goals decide
     · exact sat_bd _
 · exact hz
theorem in32_of {x : Int} (h : -4194304 ≤ x ∧ x ≤ 4194304) : In32 x := by unfold In32; omega
theorem free_none {s : St} (hr : ∀ j, j < 6 → (shS s j).ow ≠ 0) : freeS s = none := by
 unfold freeS
 rw [List.find?_eq_none]
 intro j hj
 simpa using hr j (by simpa using hj)

theorem keepf0 {a w : World} {n b pb C : Nat} {s : St} {l : List Ev} {u v : Value} {k : Nat} (h : Gk a w n b pb s l) (hA : At w C #[u, v] 57) (hk : k < 6) (x : Bu) :
 ((((((w.setCell ⟨b, 24 + k * 6, none⟩ (.int .i32 x.ax)).setCell ⟨b, 24 + k * 6 + 1, none⟩ (.int .i32 x.ay)).setCell ⟨b, 24 + k * 6 + 2, none⟩ (.int .i32 x.vx)).setCell ⟨b, 24 + k * 6 + 3, none⟩ (.int .i32 x.vy)).setCell ⟨b, 24 + k * 6 + 4, none⟩ (.int .i64 x.ow)).setCell ⟨b, 24 + k * 6 + 5, none⟩ (.int .i64 x.li)).cell? ⟨b, 4, none⟩ = some (.int .i32 s.p0.ax) ∧ ((((((w.setCell ⟨b, 24 + k * 6, none⟩ (.int .i32 x.ax)).setCell ⟨b, 24 + k * 6 + 1, none⟩ (.int .i32 x.ay)).setCell ⟨b, 24 + k * 6 + 2, none⟩ (.int .i32 x.vx)).setCell ⟨b, 24 + k * 6 + 3, none⟩ (.int .i32 x.vy)).setCell ⟨b, 24 + k * 6 + 4, none⟩ (.int .i64 x.ow)).setCell ⟨b, 24 + k * 6 + 5, none⟩ (.int .i64 x.li)).cell? ⟨b, 5, none⟩ = some (.int .i32 s.p0.ay) ∧ ((((((w.setCell ⟨b, 24 + k * 6, none⟩ (.int .i32 x.ax)).setCell ⟨b, 24 + k * 6 + 1, none⟩ (.int .i32 x.ay)).setCell ⟨b, 24 + k * 6 + 2, none⟩ (.int .i32 x.vx)).setCell ⟨b, 24 + k * 6 + 3, none⟩ (.int .i32 x.vy)).setCell ⟨b, 24 + k * 6 + 4, none⟩ (.int .i64 x.ow)).setCell ⟨b, 24 + k * 6 + 5, none⟩ (.int .i64 x.li)).cell? ⟨C, 0, none⟩ = some u ∧ ((((((w.setCell ⟨b, 24 + k * 6, none⟩ (.int .i32 x.ax)).setCell ⟨b, 24 + k * 6 + 1, none⟩ (.int .i32 x.ay)).setCell ⟨b, 24 + k * 6 + 2, none⟩ (.int .i32 x.vx)).setCell ⟨b, 24 + k * 6 + 3, none⟩ (.int .i32 x.vy)).setCell ⟨b, 24 + k * 6 + 4, none⟩ (.int .i64 x.ow)).setCell ⟨b, 24 + k * 6 + 5, none⟩ (.int .i64 x.li)).cell? ⟨C, 1, none⟩ = some v := by
 have h1 := (h.shotK x hk).gs.p0
 have hne := h.gs.ne hA (by decide)
 have h2 := (((((((hA.far hne (.int .i32 x.ax) (j := 24 + k * 6))).far hne (.int .i32 x.ay) (j := 24 + k * 6 + 1)).far hne (.int .i32 x.vx) (j := 24 + k * 6 + 2)).far hne (.int .i32 x.vy) (j := 24 + k * 6 + 3)).far hne (.int .i64 x.ow) (j := 24 + k * 6 + 4)).far hne (.int .i64 x.li) (j := 24 + k * 6 + 5)).two
 have hp : (setS s k x).p0 = s.p0 := by
  have hh : k = 0 ∨ k = 1 ∨ k = 2 ∨ k = 3 ∨ k = 4 ∨ k = 5 := by omega
  rcases hh with rfl | rfl | rfl | rfl | rfl | rfl <;> rfl
 rw [hp] at h1
 exact ⟨h1.1, h1.2.1, h2.1, h2.2⟩
theorem wave32f0 (x : Int) : In32 (waveI x) := by have := wave_bd x; unfold In32; omega
set_option maxRecDepth 100000 in
set_option maxHeartbeats 2000000 in
theorem fire0_c {w : World} {n b pb : Nat} {s : St} {l : List Ev} (h : Gs w n b pb s l) (hx : -4194304 ≤ s.p0.ax ∧ s.p0.ax ≤ 4194304) (hv : In32 s.p0.ay) (hok : ∀ k, k < 6 → shS s k = zeroB ∨ 1 ≤ (shS s k).ow) :
 Calls Tryz.prog 106 #[.pointer (some ⟨b, 0, none⟩), .int .i64 0] w fun e w' => e = .returned (.tuple #[]) ∧ Gk w w' n b pb (fireQ 0 (s, l)).1 (fireQ 0 (s, l)).2 := by
 have HK := hid h.gk
 obtain ⟨q4, q5, q6, q7, q8, q9, q10, q11, q12, q13⟩ := h.p0
 go_enter Tryz.func106, Tryz.ntmps106
 go_upto_region 2 with (go_at_call 141; ((with_reducible refine (heading_c _ _).mono ?_); rintro e w1 ⟨rfl, g1⟩; have HK1 := hid (HK.out.below g1)))
 have HA := hid (At.new w1 #[.int .i32 (waveI (s.p0.fa + 16384)), .int .i32 (waveI s.p0.fa)] 57)
 have HK2 := hid (HK1.out.below (Ev.bal (Ev.br w1) (.cells #[.int .i32 (waveI (s.p0.fa + 16384)), .int .i32 (waveI s.p0.fa)] 57)))
 generalize World.alloc w1 _ = w2 at HA HK2 ⊢
 generalize w1.heap.size = C at HA ⊢
 clear HK1 g1 q4 q5 q6 q7 q8 q9 q10 q11 q12 q13
 go_wp2_with (refine wpList_load_at rfl 63 _ rfl b 24 rfl 113 _ (shC s) (0, 0) _ HK2.out.gs.blk Tryz.underlying63 rfl (by kernel_rfl) (stC_sh s _) ?_)
 go_loopw [24] (fun i wr => ∃ k : Nat, k ≤ 6 ∧ i = .int .i64 k ∧ Gk w wr n b pb s l ∧ At wr C #[.int .i32 (waveI (s.p0.fa + 16384)), .int .i32 (waveI s.p0.fa)] 57 ∧ Hid (∀ j, j < k → (shS s j).ow ≠ 0)) (fun i _ => 6 - (intOf i).toNat)
 case atStart => exact ⟨0, by decide, rfl, HK2.out, HA.out, hid (fun j hj => by omega)⟩
 case round =>
  obtain ⟨k, hk, rfl, hG, hA, hr⟩ := hrel
  have HK3 := hid hG
  have HA3 := hid hA
  clear hG hA HK2 HA HK
  by_cases hlt : k < 6
  · have hk1 : (k : Int) < 6 := by omega
    have hk0 : (0 : Int) ≤ (k : Int) := by omega
    have HI := fun w => index_sh s k hlt w
    have hkk := hok k hlt
    generalize hX : shS s k = X at HI hkk
    by_cases hz : X = zeroB
    · have hfr : freeS s = some k := free_some hlt (by rw [hX, hz]; rfl) hr.out
      have HS : Hid (fireQ 0 (s, l) = (setP (setS s k (shotP 1 s.p0)) 0 { s.p0 with co := 8 }, tel s.fr l 1 1 s.p0.ax)) := hid (by simp [fireQ, hfr, plS])
      clear hfr hr hkk hX
      go_upto_region 6 with (go_at_call 98; ((with_reducible refine (isfree_c _ _).mono ?_); rintro e w4 ⟨rfl, g4⟩; have HK5 := hid (HK3.out.below (Ev.bt (Ev.bal (Ev.br wr) _) g4)); have HA5 := hid (HA3.out.below (Ev.bt (Ev.bal (Ev.br wr) _) g4)); rw [show decide (zeroB = zeroB) = true from rfl]))
      have HKd := hid (HK5.out.below (Ev.bd1 (Ev.br _)))
      have HAd := hid (HA5.out.below (Ev.bd1 (Ev.br _)))
      obtain ⟨q4, q5, q6, q7, q8, q9, q10, q11, q12, q13⟩ := HK5.out.gs.p0
      obtain ⟨c0, c1⟩ := HA5.out.two
      clear HI g4
      go_cut [4] from 24 to 56 (fun s4 wx => s4 = .pointer (some ⟨b, 4, none⟩) ∧ Gk w wx n b pb (setS s k (shotP 1 s.p0)) l)
      case first =>
       have hS0 := And.intro HKd.out.gs.p0.1 (And.intro HKd.out.gs.p0.2.1 HAd.out.two)
       go_region_held3 (fun W => W.cell? ⟨b, 4, none⟩ = some (.int .i32 s.p0.ax) ∧ W.cell? ⟨b, 5, none⟩ = some (.int .i32 s.p0.ay) ∧ W.cell? ⟨C, 0, none⟩ = some (.int .i32 (waveI (s.p0.fa + 16384))) ∧ W.cell? ⟨C, 1, none⟩ = some (.int .i32 (waveI s.p0.fa)))
        (first | with_reducible assumption | go_keep)
        (first
         | (go_at_call 142; ((with_reducible refine (Sh.vscale_c _ _ 262144 (wave32f0 _) (wave32f0 _) (by decide) _).mono ?_); rintro e w5 ⟨rfl, g5⟩; have HK6 := hid (HKd.out.below g5); have HA6 := hid (HAd.out.below g5); have hSS := And.intro HK6.out.gs.p0.1 (And.intro HK6.out.gs.p0.2.1 HA6.out.two)))
         | (go_at_call 109; ((with_reducible refine (Sh.vadd_c _ _ _ _ (in32_of hx) hv (sat_bd _) (sat_bd _) _).mono ?_); rintro e w6 ⟨rfl, g6⟩; have HK7 := hid (HK6.out.below g6); have HA7 := hid (HA6.out.below g6); have hSS := And.intro HK7.out.gs.p0.1 (And.intro HK7.out.gs.p0.2.1 HA7.out.two)))
         | (go_at_call 142; ((with_reducible refine (Sh.vscale_c _ _ 196608 (wave32f0 _) (wave32f0 _) (by decide) _).mono ?_); rintro e w7 ⟨rfl, g7⟩; have HK8 := hid (HK7.out.below g7); have HA8 := hid (HA7.out.below g7); have hSS := And.intro HK8.out.gs.p0.1 (And.intro HK8.out.gs.p0.2.1 HA8.out.two); obtain ⟨b0, b1, b2, b3, b4, b5⟩ := HK8.out.gs.bk hlt; have f8 := HK8.out.gs.frozen; have hS9 := keepf0 HK8.out HA8.out hlt ⟨satI (s.p0.ax + satI (waveI (s.p0.fa + 16384) * 262144 / 65536)), satI (s.p0.ay + satI (waveI s.p0.fa * 262144 / 65536)), satI (waveI (s.p0.fa + 16384) * 196608 / 65536), satI (waveI s.p0.fa * 196608 / 65536), 1, 40⟩; dsimp only at hS9))
         | (go_at_call 140; ((with_reducible refine (em0 _).mono ?_); rintro e w' ⟨rfl, rfl⟩)))
       go_wp2_with fail
       go_meet
       case rel => exact ⟨rfl, HK8.out.shotK ⟨satI (s.p0.ax + satI (waveI (s.p0.fa + 16384) * 262144 / 65536)), satI (s.p0.ay + satI (waveI s.p0.fa * 262144 / 65536)), satI (waveI (s.p0.fa + 16384) * 196608 / 65536), satI (waveI s.p0.fa * 196608 / 65536), 1, 40⟩ hlt⟩
      case rest =>
       obtain ⟨rfl, hK⟩ := hcut
       have HK9 := hid hK
       clear hK HKd HAd HK5 HA5 HK3 HA3 q4 q5 q6 q7 q8 q9 q10 q11 q12 q13 c0 c1
       have hp : (setS s k (shotP 1 s.p0)).p0 = s.p0 := by
        have hh : k = 0 ∨ k = 1 ∨ k = 2 ∨ k = 3 ∨ k = 4 ∨ k = 5 := by omega
        rcases hh with rfl | rfl | rfl | rfl | rfl | rfl <;> rfl
       have hfr : (setS s k (shotP 1 s.p0)).fr = s.fr := by
        have hh : k = 0 ∨ k = 1 ∨ k = 2 ∨ k = 3 ∨ k = 4 ∨ k = 5 := by omega
        rcases hh with rfl | rfl | rfl | rfl | rfl | rfl <;> rfl
       generalize setS s k (shotP 1 s.p0) = s2 at HK9 HS hp hfr
       have HP := hid hp
       have HF := hid hfr
       clear hp hfr
       obtain ⟨q4, q5, q6, q7, q8, q9, q10, q11, q12, q13⟩ := HK9.out.gs.p0
       have f9 := HK9.out.gs.frozen
       go_upto_region 8 with fail
       have HKA : Hid (Gk w (wc.setCell ⟨b, 10, none⟩ (.int .i64 8)) n b pb { s2 with p0 := { s2.p0 with co := 8 } } l) := hid (HK9.out.set rfl (by decide) rfl)
       generalize World.setCell wc _ _ = wd at HKA ⊢
       clear q4 q5 q6 q7 q8 q9 q10 q11 q12 q13 f9
       have hx2 : -4194304 ≤ s2.p0.ax ∧ s2.p0.ax ≤ 4194304 := by rw [HP.out]; exact hx
       go_wp2_with (first
        | (go_at_call 140; ((with_reducible refine (em0 _).mono ?_); rintro e w' ⟨rfl, rfl⟩))
        | (go_at_call 108; ((refine (tl1_1 HKA.out.gs hx2).mono ?_); rintro e w9 ⟨rfl, g9⟩; have HKB := hid (HKA.out.step g9); clear g9)))
       refine bodyPost_ret (results_none rfl _ _ _) rfl ?_
       refine ⟨rfl, ?_⟩
       rw [HS.out, ← HP.out, ← HF.out]
       exact HKB.out
    · have hn : (shS s k).ow ≠ 0 := by
       rw [hX]
       rcases hkk with e | e
       · exact absurd e hz
       · omega
      have hd : decide (X = zeroB) = false := by simp [hz]
      have HR2 := hid (show ∀ j, j < k + 1 → (shS s j).ow ≠ 0 from fun j hj => by
       rcases Nat.lt_or_eq_of_le (Nat.le_of_lt_succ hj) with e | e
       · exact hr.out j e
       · rw [e]; exact hn)
      clear hn hkk
      go_wp2_with (go_at_call 98; ((with_reducible refine (isfree_c _ _).mono ?_); rintro e w4 ⟨rfl, g4⟩; have HK5 := hid (HK3.out.below (Ev.bt (Ev.bal (Ev.br wr) _) g4)); have HA5 := hid (HA3.out.below (Ev.bt (Ev.bal (Ev.br wr) _) g4)); rw [hd]))
      go_roundw
      case rel => exact ⟨k + 1, by omega, by go_num, HK5.out, HA5.out, HR2⟩
      case measure => simp [intOf]; omega
  · have hk6 : k = 6 := by omega
    subst hk6
    have hfr : freeS s = none := free_none hr.out
    have HS : Hid (fireQ 0 (s, l) = (s, l)) := hid (by simp [fireQ, hfr])
    clear hfr hr
    go_wp2_with fail
    go_end0
    exact ⟨rfl, by rw [HS.out]; exact HK3.out⟩

theorem keepf1 {a w : World} {n b pb C : Nat} {s : St} {l : List Ev} {u v : Value} {k : Nat} (h : Gk a w n b pb s l) (hA : At w C #[u, v] 57) (hk : k < 6) (x : Bu) :
 ((((((w.setCell ⟨b, 24 + k * 6, none⟩ (.int .i32 x.ax)).setCell ⟨b, 24 + k * 6 + 1, none⟩ (.int .i32 x.ay)).setCell ⟨b, 24 + k * 6 + 2, none⟩ (.int .i32 x.vx)).setCell ⟨b, 24 + k * 6 + 3, none⟩ (.int .i32 x.vy)).setCell ⟨b, 24 + k * 6 + 4, none⟩ (.int .i64 x.ow)).setCell ⟨b, 24 + k * 6 + 5, none⟩ (.int .i64 x.li)).cell? ⟨b, 14, none⟩ = some (.int .i32 s.p1.ax) ∧ ((((((w.setCell ⟨b, 24 + k * 6, none⟩ (.int .i32 x.ax)).setCell ⟨b, 24 + k * 6 + 1, none⟩ (.int .i32 x.ay)).setCell ⟨b, 24 + k * 6 + 2, none⟩ (.int .i32 x.vx)).setCell ⟨b, 24 + k * 6 + 3, none⟩ (.int .i32 x.vy)).setCell ⟨b, 24 + k * 6 + 4, none⟩ (.int .i64 x.ow)).setCell ⟨b, 24 + k * 6 + 5, none⟩ (.int .i64 x.li)).cell? ⟨b, 15, none⟩ = some (.int .i32 s.p1.ay) ∧ ((((((w.setCell ⟨b, 24 + k * 6, none⟩ (.int .i32 x.ax)).setCell ⟨b, 24 + k * 6 + 1, none⟩ (.int .i32 x.ay)).setCell ⟨b, 24 + k * 6 + 2, none⟩ (.int .i32 x.vx)).setCell ⟨b, 24 + k * 6 + 3, none⟩ (.int .i32 x.vy)).setCell ⟨b, 24 + k * 6 + 4, none⟩ (.int .i64 x.ow)).setCell ⟨b, 24 + k * 6 + 5, none⟩ (.int .i64 x.li)).cell? ⟨C, 0, none⟩ = some u ∧ ((((((w.setCell ⟨b, 24 + k * 6, none⟩ (.int .i32 x.ax)).setCell ⟨b, 24 + k * 6 + 1, none⟩ (.int .i32 x.ay)).setCell ⟨b, 24 + k * 6 + 2, none⟩ (.int .i32 x.vx)).setCell ⟨b, 24 + k * 6 + 3, none⟩ (.int .i32 x.vy)).setCell ⟨b, 24 + k * 6 + 4, none⟩ (.int .i64 x.ow)).setCell ⟨b, 24 + k * 6 + 5, none⟩ (.int .i64 x.li)).cell? ⟨C, 1, none⟩ = some v := by
 have h1 := (h.shotK x hk).gs.p1
 have hne := h.gs.ne hA (by decide)
 have h2 := (((((((hA.far hne (.int .i32 x.ax) (j := 24 + k * 6))).far hne (.int .i32 x.ay) (j := 24 + k * 6 + 1)).far hne (.int .i32 x.vx) (j := 24 + k * 6 + 2)).far hne (.int .i32 x.vy) (j := 24 + k * 6 + 3)).far hne (.int .i64 x.ow) (j := 24 + k * 6 + 4)).far hne (.int .i64 x.li) (j := 24 + k * 6 + 5)).two
 have hp : (setS s k x).p1 = s.p1 := by
  have hh : k = 0 ∨ k = 1 ∨ k = 2 ∨ k = 3 ∨ k = 4 ∨ k = 5 := by omega
  rcases hh with rfl | rfl | rfl | rfl | rfl | rfl <;> rfl
 rw [hp] at h1
 exact ⟨h1.1, h1.2.1, h2.1, h2.2⟩
theorem wave32f1 (x : Int) : In32 (waveI x) := by have := wave_bd x; unfold In32; omega
set_option maxRecDepth 100000 in
set_option maxHeartbeats 2000000 in
theorem fire1_c {w : World} {n b pb : Nat} {s : St} {l : List Ev} (h : Gs w n b pb s l) (hx : -4194304 ≤ s.p1.ax ∧ s.p1.ax ≤ 4194304) (hv : In32 s.p1.ay) (hok : ∀ k, k < 6 → shS s k = zeroB ∨ 1 ≤ (shS s k).ow) :
 Calls Tryz.prog 106 #[.pointer (some ⟨b, 0, none⟩), .int .i64 1] w fun e w' => e = .returned (.tuple #[]) ∧ Gk w w' n b pb (fireQ 1 (s, l)).1 (fireQ 1 (s, l)).2 := by
 have HK := hid h.gk
 obtain ⟨q4, q5, q6, q7, q8, q9, q10, q11, q12, q13⟩ := h.p1
 go_enter Tryz.func106, Tryz.ntmps106
 go_upto_region 2 with (go_at_call 141; ((with_reducible refine (heading_c _ _).mono ?_); rintro e w1 ⟨rfl, g1⟩; have HK1 := hid (HK.out.below g1)))
 have HA := hid (At.new w1 #[.int .i32 (waveI (s.p1.fa + 16384)), .int .i32 (waveI s.p1.fa)] 57)
 have HK2 := hid (HK1.out.below (Ev.bal (Ev.br w1) (.cells #[.int .i32 (waveI (s.p1.fa + 16384)), .int .i32 (waveI s.p1.fa)] 57)))
 generalize World.alloc w1 _ = w2 at HA HK2 ⊢
 generalize w1.heap.size = C at HA ⊢
 clear HK1 g1 q4 q5 q6 q7 q8 q9 q10 q11 q12 q13
 go_wp2_with (refine wpList_load_at rfl 63 _ rfl b 24 rfl 113 _ (shC s) (0, 0) _ HK2.out.gs.blk Tryz.underlying63 rfl (by kernel_rfl) (stC_sh s _) ?_)
 go_loopw [24] (fun i wr => ∃ k : Nat, k ≤ 6 ∧ i = .int .i64 k ∧ Gk w wr n b pb s l ∧ At wr C #[.int .i32 (waveI (s.p1.fa + 16384)), .int .i32 (waveI s.p1.fa)] 57 ∧ Hid (∀ j, j < k → (shS s j).ow ≠ 0)) (fun i _ => 6 - (intOf i).toNat)
 case atStart => exact ⟨0, by decide, rfl, HK2.out, HA.out, hid (fun j hj => by omega)⟩
 case round =>
  obtain ⟨k, hk, rfl, hG, hA, hr⟩ := hrel
  have HK3 := hid hG
  have HA3 := hid hA
  clear hG hA HK2 HA HK
  by_cases hlt : k < 6
  · have hk1 : (k : Int) < 6 := by omega
    have hk0 : (0 : Int) ≤ (k : Int) := by omega
    have HI := fun w => index_sh s k hlt w
    have hkk := hok k hlt
    generalize hX : shS s k = X at HI hkk
    by_cases hz : X = zeroB
    · have hfr : freeS s = some k := free_some hlt (by rw [hX, hz]; rfl) hr.out
      have HS : Hid (fireQ 1 (s, l) = (setP (setS s k (shotP 2 s.p1)) 1 { s.p1 with co := 8 }, tel s.fr l 2 1 s.p1.ax)) := hid (by simp [fireQ, hfr, plS])
      clear hfr hr hkk hX
      go_upto_region 6 with (go_at_call 98; ((with_reducible refine (isfree_c _ _).mono ?_); rintro e w4 ⟨rfl, g4⟩; have HK5 := hid (HK3.out.below (Ev.bt (Ev.bal (Ev.br wr) _) g4)); have HA5 := hid (HA3.out.below (Ev.bt (Ev.bal (Ev.br wr) _) g4)); rw [show decide (zeroB = zeroB) = true from rfl]))
      have HKd := hid (HK5.out.below (Ev.bd1 (Ev.br _)))
      have HAd := hid (HA5.out.below (Ev.bd1 (Ev.br _)))
      obtain ⟨q4, q5, q6, q7, q8, q9, q10, q11, q12, q13⟩ := HK5.out.gs.p1
      obtain ⟨c0, c1⟩ := HA5.out.two
      clear HI g4
      go_cut [4] from 24 to 56 (fun s4 wx => s4 = .pointer (some ⟨b, 14, none⟩) ∧ Gk w wx n b pb (setS s k (shotP 2 s.p1)) l)
      case first =>
       have hS0 := And.intro HKd.out.gs.p1.1 (And.intro HKd.out.gs.p1.2.1 HAd.out.two)
       go_region_held3 (fun W => W.cell? ⟨b, 14, none⟩ = some (.int .i32 s.p1.ax) ∧ W.cell? ⟨b, 15, none⟩ = some (.int .i32 s.p1.ay) ∧ W.cell? ⟨C, 0, none⟩ = some (.int .i32 (waveI (s.p1.fa + 16384))) ∧ W.cell? ⟨C, 1, none⟩ = some (.int .i32 (waveI s.p1.fa)))
        (first | with_reducible assumption | go_keep)
        (first
         | (go_at_call 142; ((with_reducible refine (Sh.vscale_c _ _ 262144 (wave32f1 _) (wave32f1 _) (by decide) _).mono ?_); rintro e w5 ⟨rfl, g5⟩; have HK6 := hid (HKd.out.below g5); have HA6 := hid (HAd.out.below g5); have hSS := And.intro HK6.out.gs.p1.1 (And.intro HK6.out.gs.p1.2.1 HA6.out.two)))
         | (go_at_call 109; ((with_reducible refine (Sh.vadd_c _ _ _ _ (in32_of hx) hv (sat_bd _) (sat_bd _) _).mono ?_); rintro e w6 ⟨rfl, g6⟩; have HK7 := hid (HK6.out.below g6); have HA7 := hid (HA6.out.below g6); have hSS := And.intro HK7.out.gs.p1.1 (And.intro HK7.out.gs.p1.2.1 HA7.out.two)))
         | (go_at_call 142; ((with_reducible refine (Sh.vscale_c _ _ 196608 (wave32f1 _) (wave32f1 _) (by decide) _).mono ?_); rintro e w7 ⟨rfl, g7⟩; have HK8 := hid (HK7.out.below g7); have HA8 := hid (HA7.out.below g7); have hSS := And.intro HK8.out.gs.p1.1 (And.intro HK8.out.gs.p1.2.1 HA8.out.two); obtain ⟨b0, b1, b2, b3, b4, b5⟩ := HK8.out.gs.bk hlt; have f8 := HK8.out.gs.frozen; have hS9 := keepf1 HK8.out HA8.out hlt ⟨satI (s.p1.ax + satI (waveI (s.p1.fa + 16384) * 262144 / 65536)), satI (s.p1.ay + satI (waveI s.p1.fa * 262144 / 65536)), satI (waveI (s.p1.fa + 16384) * 196608 / 65536), satI (waveI s.p1.fa * 196608 / 65536), 2, 40⟩; dsimp only at hS9))
         | (go_at_call 140; ((with_reducible refine (em1 _).mono ?_); rintro e w' ⟨rfl, rfl⟩)))
       go_wp2_with fail
       go_meet
       case rel => exact ⟨rfl, HK8.out.shotK ⟨satI (s.p1.ax + satI (waveI (s.p1.fa + 16384) * 262144 / 65536)), satI (s.p1.ay + satI (waveI s.p1.fa * 262144 / 65536)), satI (waveI (s.p1.fa + 16384) * 196608 / 65536), satI (waveI s.p1.fa * 196608 / 65536), 2, 40⟩ hlt⟩
      case rest =>
       obtain ⟨rfl, hK⟩ := hcut
       have HK9 := hid hK
       clear hK HKd HAd HK5 HA5 HK3 HA3 q4 q5 q6 q7 q8 q9 q10 q11 q12 q13 c0 c1
       have hp : (setS s k (shotP 2 s.p1)).p1 = s.p1 := by
        have hh : k = 0 ∨ k = 1 ∨ k = 2 ∨ k = 3 ∨ k = 4 ∨ k = 5 := by omega
        rcases hh with rfl | rfl | rfl | rfl | rfl | rfl <;> rfl
       have hfr : (setS s k (shotP 2 s.p1)).fr = s.fr := by
        have hh : k = 0 ∨ k = 1 ∨ k = 2 ∨ k = 3 ∨ k = 4 ∨ k = 5 := by omega
        rcases hh with rfl | rfl | rfl | rfl | rfl | rfl <;> rfl
       generalize setS s k (shotP 2 s.p1) = s2 at HK9 HS hp hfr
       have HP := hid hp
       have HF := hid hfr
       clear hp hfr
       obtain ⟨q4, q5, q6, q7, q8, q9, q10, q11, q12, q13⟩ := HK9.out.gs.p1
       have f9 := HK9.out.gs.frozen
       go_upto_region 8 with fail
       have HKA : Hid (Gk w (wc.setCell ⟨b, 20, none⟩ (.int .i64 8)) n b pb { s2 with p1 := { s2.p1 with co := 8 } } l) := hid (HK9.out.set rfl (by decide) rfl)
       generalize World.setCell wc _ _ = wd at HKA ⊢
       clear q4 q5 q6 q7 q8 q9 q10 q11 q12 q13 f9
       have hx2 : -4194304 ≤ s2.p1.ax ∧ s2.p1.ax ≤ 4194304 := by rw [HP.out]; exact hx
       go_wp2_with (first
        | (go_at_call 140; ((with_reducible refine (em1 _).mono ?_); rintro e w' ⟨rfl, rfl⟩))
        | (go_at_call 108; ((refine (tl2_1 HKA.out.gs hx2).mono ?_); rintro e w9 ⟨rfl, g9⟩; have HKB := hid (HKA.out.step g9); clear g9)))
       refine bodyPost_ret (results_none rfl _ _ _) rfl ?_
       refine ⟨rfl, ?_⟩
       rw [HS.out, ← HP.out, ← HF.out]
       exact HKB.out
    · have hn : (shS s k).ow ≠ 0 := by
       rw [hX]
       rcases hkk with e | e
       · exact absurd e hz
       · omega
      have hd : decide (X = zeroB) = false := by simp [hz]
      have HR2 := hid (show ∀ j, j < k + 1 → (shS s j).ow ≠ 0 from fun j hj => by
       rcases Nat.lt_or_eq_of_le (Nat.le_of_lt_succ hj) with e | e
       · exact hr.out j e
       · rw [e]; exact hn)
      clear hn hkk
      go_wp2_with (go_at_call 98; ((with_reducible refine (isfree_c _ _).mono ?_); rintro e w4 ⟨rfl, g4⟩; have HK5 := hid (HK3.out.below (Ev.bt (Ev.bal (Ev.br wr) _) g4)); have HA5 := hid (HA3.out.below (Ev.bt (Ev.bal (Ev.br wr) _) g4)); rw [hd]))
      go_roundw
      case rel => exact ⟨k + 1, by omega, by go_num, HK5.out, HA5.out, HR2⟩
      case measure => simp [intOf]; omega
  · have hk6 : k = 6 := by omega
    subst hk6
    have hfr : freeS s = none := free_none hr.out
    have HS : Hid (fireQ 1 (s, l) = (s, l)) := hid (by simp [fireQ, hfr])
    clear hfr hr
    go_wp2_with fail
    go_end0
    exact ⟨rfl, by rw [HS.out]; exact HK3.out⟩

end Go.Proofs.YtfclnhmijjlhdaaGreatDoor.Gm
