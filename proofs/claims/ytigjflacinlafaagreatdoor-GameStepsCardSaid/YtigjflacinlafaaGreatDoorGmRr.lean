/- May a state be, by the document (layer 12, game). -/
import Derived.Test.YtigjflacinlafaaGreatDoorGmRa
import Derived.Test.YtigjflacinlafaaGreatDoorGmGood
import Derived.Deep.DeepCutAuto
import Derived.Deep.RegionWith
namespace Go.Proofs.YtigjflacinlafaaGreatDoor.Gm
open Go.RowKit Go.Proofs.YtigjflacinlafaaGreatDoor.Fx Go.Proofs.YtigjflacinlafaaGreatDoor.Tg Go.Proofs.YtigjflacinlafaaGreatDoor.Dc
open Go.Proofs.YtigjflacinlafaaGreatDoor.Ev (Ev Ky addR pageI At ecs Pg Evs)
open Go.Proofs.YtigjflacinlafaaGreatDoor.Sh (In32 vec box insideB touchB slI mvP mvV wallI)
set_option linter.unusedVariables false

theorem eitherW {P : Program} {ops : Array Oper} {Q : Exit → Act → World → Prop} {md : Region.Mode} {S : World → Prop} {i d : Nat} {oi : Oper} {v : Value} {b : Bool} {fuel : Nat} {listed : Array Bool} {a : Act} {w : World} (hi : ops[i]? = some oi) (hd : oi.dst = some d)
 (hs : Region.noSelect ops = true) (hf : Region.free md ops listed i = true) (hr : (Region.ready md ops listed).contains i = true)
 (hQ : ∀ c a u w, Q (.panic c) (a.put oi.dst u) w → Q (.panic c) a w) (hw : Region.wanted oi (yielded ops a.tmps) = b) (hy : b = true → ∀ w, S w → (execOp a.eval oi).run P w = .ok (.value v) w) (hS : S w)
 (h : ∀ u, Hid (b = true → u = v) → wpAnyH P md ops Q S fuel (listed.setIfInBounds i true) (a.put (some d) u) w) : wpAnyH P md ops Q S (fuel + 1) listed a w := by
 cases b
 · exact wpAnyH_take hi hs hf hr (fun c a w h => hQ c a _ w h) (.inr ⟨hw, rfl⟩) hS (by rw [hd]; exact h _ (fun e => by cases e))
 · exact wpAnyH_take hi hs hf hr (fun c a w h => hQ c a _ w h) (.inl ⟨hw, hy rfl⟩) hS (by rw [hd]; exact h _ (fun _ => rfl))
theorem inB_iff2 {n a b : Int} : inB n a b = true ↔ a ≤ n ∧ n ≤ b := by unfold inB; simp
theorem stC_pk (s : St) (k : Nat) (hk : k < 2) : ∀ j v, (plC (plS s k))[j]? = some v → ((stC s).toArray)[4 + k * 10 + j]? = some v := by
 intro j v hv
 have hh : k = 0 ∨ k = 1 := by omega
 have hj : j < 10 := (List.getElem?_eq_some_iff.1 hv).1
 have h2 : (plsC s)[k * 10 + j]? = some v := by
  rcases hh with rfl | rfl
  · rw [Nat.zero_mul, Nat.zero_add]
    show (plC s.p0 ++ plC s.p1)[j]? = some v
    rw [List.getElem?_append_left (by show j < 10; exact hj)]
    exact hv
  · show (plC s.p0 ++ plC s.p1)[1 * 10 + j]? = some v
    rw [List.getElem?_append_right (by show 10 ≤ 1 * 10 + j; omega), show 1 * 10 + j - (plC s.p0).length = j from by show 1 * 10 + j - 10 = j; omega]
    exact hv
 rw [Nat.add_assoc]
 exact stC_pl s _ v h2
theorem stC_bk (s : St) (k : Nat) (hk : k < 6) : ∀ j v, (buC (shS s k))[j]? = some v → ((stC s).toArray)[24 + k * 6 + j]? = some v := by
 intro j v hv
 have hh : k = 0 ∨ k = 1 ∨ k = 2 ∨ k = 3 ∨ k = 4 ∨ k = 5 := by omega
 have hj : j < 6 := (List.getElem?_eq_some_iff.1 hv).1
 have h2 : (shC s)[k * 6 + j]? = some v := by
  have hj6 : j = 0 ∨ j = 1 ∨ j = 2 ∨ j = 3 ∨ j = 4 ∨ j = 5 := by omega
  rcases hh with rfl | rfl | rfl | rfl | rfl | rfl <;> rcases hj6 with rfl | rfl | rfl | rfl | rfl | rfl <;> exact hv
 rw [Nat.add_assoc]
 exact stC_sh0 s _ v h2

theorem play_no {x : Pl} (h : x.fa < 0 ∨ 65535 < x.fa ∨ x.hp < 0 ∨ 3 < x.hp ∨ x.co < 0 ∨ 8 < x.co ∨ x.wi < 0 ∨ 20 < x.wi ∨ x.dn < 0 ∨ 30 < x.dn ∨ x.sc < 0 ∨ 2 < x.sc) : playB x = false := by
 cases hp : playB x
 · rfl
 · exfalso
   unfold playB at hp
   simp only [Bool.and_eq_true, inB_iff2] at hp
   omega
theorem play_out {x : Pl} (h : insideB (-3932160) (-3932160) 3932160 3932160 x.ax x.ay = false) : playB x = false := by unfold playB; rw [h]; simp
theorem play_up {x : Pl} (h : (decide (0 < x.hp) == decide (x.dn = 0)) = false) : playB x = false := by unfold playB; rw [h]; simp
theorem play_yes {x : Pl} (h : ¬ (x.fa < 0 ∨ 65535 < x.fa ∨ x.hp < 0 ∨ 3 < x.hp ∨ x.co < 0 ∨ 8 < x.co ∨ x.wi < 0 ∨ 20 < x.wi ∨ x.dn < 0 ∨ 30 < x.dn ∨ x.sc < 0 ∨ 2 < x.sc)) (h1 : insideB (-3932160) (-3932160) 3932160 3932160 x.ax x.ay = true) (h2 : (decide (0 < x.hp) == decide (x.dn = 0)) = true) : playB x = true := by
 unfold playB
 simp only [Bool.and_eq_true, inB_iff2]
 exact ⟨by omega, by omega, by omega, by omega, by omega, by omega, h1, h2⟩
theorem free_no {x : Bu} (hz : decide (x = zeroB) = false) (h : x.ow < 1 ∨ 2 < x.ow ∨ x.li < 1 ∨ 40 < x.li) : freeB x = false := by
 cases hp : freeB x
 · rfl
 · exfalso
   unfold freeB flyB at hp
   rw [hz] at hp
   simp only [Bool.false_or, Bool.and_eq_true, inB_iff2] at hp
   omega
theorem free_out {x : Bu} (hz : decide (x = zeroB) = false) (h : insideB (-4194304) (-4194304) 4194304 4194304 x.ax x.ay = false) : freeB x = false := by unfold freeB flyB; rw [hz, h]; simp
theorem free_yes {x : Bu} (h : ¬ (x.ow < 1 ∨ 2 < x.ow ∨ x.li < 1 ∨ 40 < x.li)) (h1 : insideB (-4194304) (-4194304) 4194304 4194304 x.ax x.ay = true) : freeB x = true := by
 unfold freeB flyB
 simp only [Bool.or_eq_true, Bool.and_eq_true, inB_iff2]
 exact .inr ⟨by omega, by omega, h1⟩
theorem nums_no {s : St} (h : s.fr < 0 ∨ 1073741824 < s.fr ∨ s.rd < 0 ∨ 1073741824 < s.rd ∨ s.lf < 1 ∨ 600 < s.lf) : rightS s = false := by
 refine rightS_num ?_
 cases hp : numsB s
 · rfl
 · exfalso
   unfold numsB at hp
   simp only [Bool.and_eq_true, inB_iff2] at hp
   omega
theorem nums_yes {s : St} (h : ¬ (s.fr < 0 ∨ 1073741824 < s.fr ∨ s.rd < 0 ∨ 1073741824 < s.rd ∨ s.lf < 1 ∨ 600 < s.lf)) : numsB s = true := by
 unfold numsB
 simp only [Bool.and_eq_true, inB_iff2]
 exact ⟨by omega, by omega, by omega⟩

set_option maxRecDepth 100000 in
set_option maxHeartbeats 4000000 in
theorem rright_c (s : St) (w : World) :
 Calls Tryz.prog 10 #[.agg (stC s).toArray] w fun e w' => e = .returned (.bool (rightS s)) ∧ Below w.heap.size w w' := by
 have HA := hid (At.new w (stC s).toArray 35)
 have HB := hid (Ev.bal (Ev.br w) (.cells (stC s).toArray 35))
 generalize hC : stC s = cs at HA HB
 go_enter Tryz.func10, Tryz.ntmps10
 go_upto_region 1 with fail
 subst hC
 generalize World.alloc w _ = w0 at HA HB ⊢
 go_wp2_with fail
 go_loopw [3] (fun i wr => ∃ k : Nat, k ≤ 2 ∧ i = .int .i64 k ∧ Below w0.heap.size w0 wr ∧ Hid (∀ j, j < k → playB (plS s j) = true)) (fun i _ => 2 - (intOf i).toNat)
 case atStart => exact ⟨0, by decide, rfl, Ev.br _, hid (fun j hj => by omega)⟩
 case round =>
  obtain ⟨k, hk, rfl, hg, hr⟩ := hrel
  have HAr := hid (HA.out.below hg)
  by_cases hlt : k < 2
  · have hk1 : (k : Int) < 2 := by omega
    have hk0 : (0 : Int) ≤ (k : Int) := by omega
    have HI := hid (stC_pk s k hlt)
    have HPx : Hid (playB (plS s k) = false → rightS s = false) := hid (fun h => rightS_pl hlt h)
    have HPy : Hid (playB (plS s k) = true → ∀ j, j < k + 1 → playB (plS s j) = true) := hid (fun h j hj => by
     rcases Nat.lt_or_eq_of_le (Nat.le_of_lt_succ hj) with e | e
     · exact hr.out j e
     · rw [e]; exact h)
    have HPy2 : Hid (playB (plS s k) = true → Hid (∀ j, j < k + 1 → playB (plS s j) = true)) := hid (fun h => hid (HPy.out h))
    clear HPy
    have HPy := HPy2
    clear HPy2 hr
    generalize plS s k = x at HI HPx HPy
    go_upto_region 5 with (refine wpList_load_at rfl 29 _ rfl w.heap.size (4 + k * 10) rfl 35 _ (plC x) (0, 0) _ HAr.out Tryz.underlying29 rfl (by kernel_rfl) HI.out ?_)
    have HX := hid (At.new wr (plA x) 29)
    have HBx := hid (Ev.bt HB.out (Ev.bt hg (Ev.bal (Ev.br wr) (.cells (plA x) 29))))
    have HBy := hid (Ev.bt hg (Ev.bal (Ev.br wr) (.cells (plA x) 29)))
    generalize World.alloc wr _ = w1 at HX HBx HBy ⊢
    generalize wr.heap.size = C at HX ⊢
    have hK := hid (fun W (g : Below w1.heap.size w1 W) => at_pl (HX.out.below g))
    obtain ⟨b0, hb0⟩ : ∃ b, b = decide (x.fa < 0) := ⟨_, rfl⟩
    obtain ⟨b1, hb1⟩ : ∃ b, b = decide (65535 < x.fa) := ⟨_, rfl⟩
    obtain ⟨b2, hb2⟩ : ∃ b, b = decide (x.hp < 0) := ⟨_, rfl⟩
    obtain ⟨b3, hb3⟩ : ∃ b, b = decide (3 < x.hp) := ⟨_, rfl⟩
    obtain ⟨b4, hb4⟩ : ∃ b, b = decide (x.co < 0) := ⟨_, rfl⟩
    obtain ⟨b5, hb5⟩ : ∃ b, b = decide (8 < x.co) := ⟨_, rfl⟩
    obtain ⟨b6, hb6⟩ : ∃ b, b = decide (x.wi < 0) := ⟨_, rfl⟩
    obtain ⟨b7, hb7⟩ : ∃ b, b = decide (20 < x.wi) := ⟨_, rfl⟩
    obtain ⟨b8, hb8⟩ : ∃ b, b = decide (x.dn < 0) := ⟨_, rfl⟩
    obtain ⟨b9, hb9⟩ : ∃ b, b = decide (30 < x.dn) := ⟨_, rfl⟩
    obtain ⟨b10, hb10⟩ : ∃ b, b = decide (x.sc < 0) := ⟨_, rfl⟩
    obtain ⟨b11, hb11⟩ : ∃ b, b = decide (2 < x.sc) := ⟨_, rfl⟩
    obtain ⟨r1, hr1⟩ : ∃ r, r = (b0 || b1) := ⟨_, rfl⟩
    obtain ⟨r2, hr2⟩ : ∃ r, r = (r1 || b2) := ⟨_, rfl⟩
    obtain ⟨r3, hr3⟩ : ∃ r, r = (r2 || b3) := ⟨_, rfl⟩
    obtain ⟨r4, hr4⟩ : ∃ r, r = (r3 || b4) := ⟨_, rfl⟩
    obtain ⟨r5, hr5⟩ : ∃ r, r = (r4 || b5) := ⟨_, rfl⟩
    obtain ⟨r6, hr6⟩ : ∃ r, r = (r5 || b6) := ⟨_, rfl⟩
    obtain ⟨r7, hr7⟩ : ∃ r, r = (r6 || b7) := ⟨_, rfl⟩
    obtain ⟨r8, hr8⟩ : ∃ r, r = (r7 || b8) := ⟨_, rfl⟩
    obtain ⟨r9, hr9⟩ : ∃ r, r = (r8 || b9) := ⟨_, rfl⟩
    obtain ⟨r10, hr10⟩ : ∃ r, r = (r9 || b10) := ⟨_, rfl⟩
    obtain ⟨r11, hr11⟩ : ∃ r, r = (r10 || b11) := ⟨_, rfl⟩
    have HT : Hid (r11 = true → playB x = false) := hid (fun h => play_no (by simp only [hr11, hr10, hr9, hr8, hr7, hr6, hr5, hr4, hr3, hr2, hr1, hb0, hb1, hb2, hb3, hb4, hb5, hb6, hb7, hb8, hb9, hb10, hb11, Bool.or_eq_true, decide_eq_true_iff] at h; omega))
    have HF : Hid (r11 = false → insideB (-3932160) (-3932160) 3932160 3932160 x.ax x.ay = true → (decide (0 < x.hp) == decide (x.dn = 0)) = true → playB x = true) := hid (fun h h1 h2 => play_yes (by simp only [hr11, hr10, hr9, hr8, hr7, hr6, hr5, hr4, hr3, hr2, hr1, hb0, hb1, hb2, hb3, hb4, hb5, hb6, hb7, hb8, hb9, hb10, hb11, Bool.or_eq_false_iff, decide_eq_false_iff_not] at h; omega) h1 h2)
    have B0 := hid hb0; clear hb0
    have B1 := hid hb1; clear hb1
    have B2 := hid hb2; clear hb2
    have B3 := hid hb3; clear hb3
    have B4 := hid hb4; clear hb4
    have B5 := hid hb5; clear hb5
    have B6 := hid hb6; clear hb6
    have B7 := hid hb7; clear hb7
    have B8 := hid hb8; clear hb8
    have B9 := hid hb9; clear hb9
    have B10 := hid hb10; clear hb10
    have B11 := hid hb11; clear hb11
    have R1 := hid hr1; clear hr1
    have R2 := hid hr2; clear hr2
    have R3 := hid hr3; clear hr3
    have R4 := hid hr4; clear hr4
    have R5 := hid hr5; clear hr5
    have R6 := hid hr6; clear hr6
    have R7 := hid hr7; clear hr7
    have R8 := hid hr8; clear hr8
    have R9 := hid hr9; clear hr9
    have R10 := hid hr10; clear hr10
    have R11 := hid hr11; clear hr11
    refine wp_region_noPanic ?_
    refine wp_region_held_drew (S := (fun W => Below w1.heap.size w1 W)) (by kernel_rfl) (by first | exact Ev.bd1 (Ev.br _) | exact Ev.bdn (Ev.br _) _ | exact Ev.br _) (fun hHeld => ?_)
    (refine tk 0 15 ?_ rfl rfl (by kernel_rfl) (by rfl) ?_ (by assumption) ?_)
    rotate_left
    · (intro W hSW; go_simp; (try with_reducible rfl))
    simp only [Act.put, pu1, pu2, pu3]
    (refine tk 1 16 ?_ rfl rfl (by kernel_rfl) (by rfl) ?_ (by assumption) ?_)
    rotate_left
    · (intro W hSW; have hSW2 := hK.out W hSW; go_simp; (try with_reducible rfl))
    simp only [Act.put, pu1, pu2, pu3]
    (refine tk 2 17 (.bool b0) rfl rfl (by kernel_rfl) (by rfl) ?_ (by assumption) ?_)
    · (intro W hSW; rw [B0.out]; go_simp; (try with_reducible rfl))
    simp only [Act.put, pu1, pu2, pu3]
    (refine tk 3 18 ?_ rfl rfl (by kernel_rfl) (by rfl) ?_ (by assumption) ?_)
    rotate_left
    · (intro W hSW; go_simp; (try with_reducible rfl))
    simp only [Act.put, pu1, pu2, pu3]
    (refine eitherW (i := 4) (d := 19) (v := ?_) (b := (b0 == false)) rfl rfl (by kernel_rfl) (by kernel_rfl) (by kernel_rfl) (fun _ _ _ _ h => h) (by rfl) ?_ (by assumption) ?_)
    rotate_left
    · (intro hb W hSW; go_simp; (try with_reducible rfl))
    intro u19 U19
    simp only [Act.put, pu1, pu2, pu3]
    (refine eitherW (i := 5) (d := 20) (v := ?_) (b := (b0 == false)) rfl rfl (by kernel_rfl) (by kernel_rfl) (by kernel_rfl) (fun _ _ _ _ h => h) (by rfl) ?_ (by assumption) ?_)
    rotate_left
    · (intro hb W hSW; obtain rfl := U19.out hb; have hSW2 := hK.out W hSW; go_simp; (try with_reducible rfl))
    intro u20 U20
    simp only [Act.put, pu1, pu2, pu3]
    (refine eitherW (i := 6) (d := 21) (v := .bool b1) (b := (b0 == false)) rfl rfl (by kernel_rfl) (by kernel_rfl) (by kernel_rfl) (fun _ _ _ _ h => h) (by rfl) ?_ (by assumption) ?_)
    · (intro hb W hSW; obtain rfl := U20.out hb; rw [B1.out]; go_simp; (try with_reducible rfl))
    intro u21 U21
    simp only [Act.put, pu1, pu2, pu3]
    (refine tk 7 22 (.bool r1) rfl rfl (by kernel_rfl) (by rfl) ?_ (by assumption) ?_)
    · (intro W hSW; rw [R1.out]; cases b0 <;> first | rfl | (obtain rfl := U21.out rfl; rfl))
    simp only [Act.put, pu1, pu2, pu3]
    clear U19 U20 U21
    (refine tk 8 23 ?_ rfl rfl (by kernel_rfl) (by rfl) ?_ (by assumption) ?_)
    rotate_left
    · (intro W hSW; go_simp; (try with_reducible rfl))
    simp only [Act.put, pu1, pu2, pu3]
    (refine eitherW (i := 9) (d := 24) (v := ?_) (b := (r1 == false)) rfl rfl (by kernel_rfl) (by kernel_rfl) (by kernel_rfl) (fun _ _ _ _ h => h) (by rfl) ?_ (by assumption) ?_)
    rotate_left
    · (intro hb W hSW; go_simp; (try with_reducible rfl))
    intro u24 U24
    simp only [Act.put, pu1, pu2, pu3]
    (refine eitherW (i := 10) (d := 25) (v := ?_) (b := (r1 == false)) rfl rfl (by kernel_rfl) (by kernel_rfl) (by kernel_rfl) (fun _ _ _ _ h => h) (by rfl) ?_ (by assumption) ?_)
    rotate_left
    · (intro hb W hSW; obtain rfl := U24.out hb; have hSW2 := hK.out W hSW; go_simp; (try with_reducible rfl))
    intro u25 U25
    simp only [Act.put, pu1, pu2, pu3]
    (refine eitherW (i := 11) (d := 26) (v := .bool b2) (b := (r1 == false)) rfl rfl (by kernel_rfl) (by kernel_rfl) (by kernel_rfl) (fun _ _ _ _ h => h) (by rfl) ?_ (by assumption) ?_)
    · (intro hb W hSW; obtain rfl := U25.out hb; rw [B2.out]; go_simp; (try with_reducible rfl))
    intro u26 U26
    simp only [Act.put, pu1, pu2, pu3]
    (refine tk 12 27 (.bool r2) rfl rfl (by kernel_rfl) (by rfl) ?_ (by assumption) ?_)
    · (intro W hSW; rw [R2.out]; cases r1 <;> first | rfl | (obtain rfl := U26.out rfl; rfl))
    simp only [Act.put, pu1, pu2, pu3]
    clear U24 U25 U26
    (refine tk 13 28 ?_ rfl rfl (by kernel_rfl) (by rfl) ?_ (by assumption) ?_)
    rotate_left
    · (intro W hSW; go_simp; (try with_reducible rfl))
    simp only [Act.put, pu1, pu2, pu3]
    (refine eitherW (i := 14) (d := 29) (v := ?_) (b := (r2 == false)) rfl rfl (by kernel_rfl) (by kernel_rfl) (by kernel_rfl) (fun _ _ _ _ h => h) (by rfl) ?_ (by assumption) ?_)
    rotate_left
    · (intro hb W hSW; go_simp; (try with_reducible rfl))
    intro u29 U29
    simp only [Act.put, pu1, pu2, pu3]
    (refine eitherW (i := 15) (d := 30) (v := ?_) (b := (r2 == false)) rfl rfl (by kernel_rfl) (by kernel_rfl) (by kernel_rfl) (fun _ _ _ _ h => h) (by rfl) ?_ (by assumption) ?_)
    rotate_left
    · (intro hb W hSW; obtain rfl := U29.out hb; have hSW2 := hK.out W hSW; go_simp; (try with_reducible rfl))
    intro u30 U30
    simp only [Act.put, pu1, pu2, pu3]
    (refine eitherW (i := 16) (d := 31) (v := .bool b3) (b := (r2 == false)) rfl rfl (by kernel_rfl) (by kernel_rfl) (by kernel_rfl) (fun _ _ _ _ h => h) (by rfl) ?_ (by assumption) ?_)
    · (intro hb W hSW; obtain rfl := U30.out hb; rw [B3.out]; go_simp; (try with_reducible rfl))
    intro u31 U31
    simp only [Act.put, pu1, pu2, pu3]
    (refine tk 17 32 (.bool r3) rfl rfl (by kernel_rfl) (by rfl) ?_ (by assumption) ?_)
    · (intro W hSW; rw [R3.out]; cases r2 <;> first | rfl | (obtain rfl := U31.out rfl; rfl))
    simp only [Act.put, pu1, pu2, pu3]
    clear U29 U30 U31
    (refine tk 18 33 ?_ rfl rfl (by kernel_rfl) (by rfl) ?_ (by assumption) ?_)
    rotate_left
    · (intro W hSW; go_simp; (try with_reducible rfl))
    simp only [Act.put, pu1, pu2, pu3]
    (refine eitherW (i := 19) (d := 34) (v := ?_) (b := (r3 == false)) rfl rfl (by kernel_rfl) (by kernel_rfl) (by kernel_rfl) (fun _ _ _ _ h => h) (by rfl) ?_ (by assumption) ?_)
    rotate_left
    · (intro hb W hSW; go_simp; (try with_reducible rfl))
    intro u34 U34
    simp only [Act.put, pu1, pu2, pu3]
    (refine eitherW (i := 20) (d := 35) (v := ?_) (b := (r3 == false)) rfl rfl (by kernel_rfl) (by kernel_rfl) (by kernel_rfl) (fun _ _ _ _ h => h) (by rfl) ?_ (by assumption) ?_)
    rotate_left
    · (intro hb W hSW; obtain rfl := U34.out hb; have hSW2 := hK.out W hSW; go_simp; (try with_reducible rfl))
    intro u35 U35
    simp only [Act.put, pu1, pu2, pu3]
    (refine eitherW (i := 21) (d := 36) (v := .bool b4) (b := (r3 == false)) rfl rfl (by kernel_rfl) (by kernel_rfl) (by kernel_rfl) (fun _ _ _ _ h => h) (by rfl) ?_ (by assumption) ?_)
    · (intro hb W hSW; obtain rfl := U35.out hb; rw [B4.out]; go_simp; (try with_reducible rfl))
    intro u36 U36
    simp only [Act.put, pu1, pu2, pu3]
    (refine tk 22 37 (.bool r4) rfl rfl (by kernel_rfl) (by rfl) ?_ (by assumption) ?_)
    · (intro W hSW; rw [R4.out]; cases r3 <;> first | rfl | (obtain rfl := U36.out rfl; rfl))
    simp only [Act.put, pu1, pu2, pu3]
    clear U34 U35 U36
    (refine tk 23 38 ?_ rfl rfl (by kernel_rfl) (by rfl) ?_ (by assumption) ?_)
    rotate_left
    · (intro W hSW; go_simp; (try with_reducible rfl))
    simp only [Act.put, pu1, pu2, pu3]
    (refine eitherW (i := 24) (d := 39) (v := ?_) (b := (r4 == false)) rfl rfl (by kernel_rfl) (by kernel_rfl) (by kernel_rfl) (fun _ _ _ _ h => h) (by rfl) ?_ (by assumption) ?_)
    rotate_left
    · (intro hb W hSW; go_simp; (try with_reducible rfl))
    intro u39 U39
    simp only [Act.put, pu1, pu2, pu3]
    (refine eitherW (i := 25) (d := 40) (v := ?_) (b := (r4 == false)) rfl rfl (by kernel_rfl) (by kernel_rfl) (by kernel_rfl) (fun _ _ _ _ h => h) (by rfl) ?_ (by assumption) ?_)
    rotate_left
    · (intro hb W hSW; obtain rfl := U39.out hb; have hSW2 := hK.out W hSW; go_simp; (try with_reducible rfl))
    intro u40 U40
    simp only [Act.put, pu1, pu2, pu3]
    (refine eitherW (i := 26) (d := 41) (v := .bool b5) (b := (r4 == false)) rfl rfl (by kernel_rfl) (by kernel_rfl) (by kernel_rfl) (fun _ _ _ _ h => h) (by rfl) ?_ (by assumption) ?_)
    · (intro hb W hSW; obtain rfl := U40.out hb; rw [B5.out]; go_simp; (try with_reducible rfl))
    intro u41 U41
    simp only [Act.put, pu1, pu2, pu3]
    (refine tk 27 42 (.bool r5) rfl rfl (by kernel_rfl) (by rfl) ?_ (by assumption) ?_)
    · (intro W hSW; rw [R5.out]; cases r4 <;> first | rfl | (obtain rfl := U41.out rfl; rfl))
    simp only [Act.put, pu1, pu2, pu3]
    clear U39 U40 U41
    (refine tk 28 43 ?_ rfl rfl (by kernel_rfl) (by rfl) ?_ (by assumption) ?_)
    rotate_left
    · (intro W hSW; go_simp; (try with_reducible rfl))
    simp only [Act.put, pu1, pu2, pu3]
    (refine eitherW (i := 29) (d := 44) (v := ?_) (b := (r5 == false)) rfl rfl (by kernel_rfl) (by kernel_rfl) (by kernel_rfl) (fun _ _ _ _ h => h) (by rfl) ?_ (by assumption) ?_)
    rotate_left
    · (intro hb W hSW; go_simp; (try with_reducible rfl))
    intro u44 U44
    simp only [Act.put, pu1, pu2, pu3]
    (refine eitherW (i := 30) (d := 45) (v := ?_) (b := (r5 == false)) rfl rfl (by kernel_rfl) (by kernel_rfl) (by kernel_rfl) (fun _ _ _ _ h => h) (by rfl) ?_ (by assumption) ?_)
    rotate_left
    · (intro hb W hSW; obtain rfl := U44.out hb; have hSW2 := hK.out W hSW; go_simp; (try with_reducible rfl))
    intro u45 U45
    simp only [Act.put, pu1, pu2, pu3]
    (refine eitherW (i := 31) (d := 46) (v := .bool b6) (b := (r5 == false)) rfl rfl (by kernel_rfl) (by kernel_rfl) (by kernel_rfl) (fun _ _ _ _ h => h) (by rfl) ?_ (by assumption) ?_)
    · (intro hb W hSW; obtain rfl := U45.out hb; rw [B6.out]; go_simp; (try with_reducible rfl))
    intro u46 U46
    simp only [Act.put, pu1, pu2, pu3]
    (refine tk 32 47 (.bool r6) rfl rfl (by kernel_rfl) (by rfl) ?_ (by assumption) ?_)
    · (intro W hSW; rw [R6.out]; cases r5 <;> first | rfl | (obtain rfl := U46.out rfl; rfl))
    simp only [Act.put, pu1, pu2, pu3]
    clear U44 U45 U46
    (refine tk 33 48 ?_ rfl rfl (by kernel_rfl) (by rfl) ?_ (by assumption) ?_)
    rotate_left
    · (intro W hSW; go_simp; (try with_reducible rfl))
    simp only [Act.put, pu1, pu2, pu3]
    (refine eitherW (i := 34) (d := 49) (v := ?_) (b := (r6 == false)) rfl rfl (by kernel_rfl) (by kernel_rfl) (by kernel_rfl) (fun _ _ _ _ h => h) (by rfl) ?_ (by assumption) ?_)
    rotate_left
    · (intro hb W hSW; go_simp; (try with_reducible rfl))
    intro u49 U49
    simp only [Act.put, pu1, pu2, pu3]
    (refine eitherW (i := 35) (d := 50) (v := ?_) (b := (r6 == false)) rfl rfl (by kernel_rfl) (by kernel_rfl) (by kernel_rfl) (fun _ _ _ _ h => h) (by rfl) ?_ (by assumption) ?_)
    rotate_left
    · (intro hb W hSW; obtain rfl := U49.out hb; have hSW2 := hK.out W hSW; go_simp; (try with_reducible rfl))
    intro u50 U50
    simp only [Act.put, pu1, pu2, pu3]
    (refine eitherW (i := 36) (d := 51) (v := .bool b7) (b := (r6 == false)) rfl rfl (by kernel_rfl) (by kernel_rfl) (by kernel_rfl) (fun _ _ _ _ h => h) (by rfl) ?_ (by assumption) ?_)
    · (intro hb W hSW; obtain rfl := U50.out hb; rw [B7.out]; go_simp; (try with_reducible rfl))
    intro u51 U51
    simp only [Act.put, pu1, pu2, pu3]
    (refine tk 37 52 (.bool r7) rfl rfl (by kernel_rfl) (by rfl) ?_ (by assumption) ?_)
    · (intro W hSW; rw [R7.out]; cases r6 <;> first | rfl | (obtain rfl := U51.out rfl; rfl))
    simp only [Act.put, pu1, pu2, pu3]
    clear U49 U50 U51
    (refine tk 38 53 ?_ rfl rfl (by kernel_rfl) (by rfl) ?_ (by assumption) ?_)
    rotate_left
    · (intro W hSW; go_simp; (try with_reducible rfl))
    simp only [Act.put, pu1, pu2, pu3]
    (refine eitherW (i := 39) (d := 54) (v := ?_) (b := (r7 == false)) rfl rfl (by kernel_rfl) (by kernel_rfl) (by kernel_rfl) (fun _ _ _ _ h => h) (by rfl) ?_ (by assumption) ?_)
    rotate_left
    · (intro hb W hSW; go_simp; (try with_reducible rfl))
    intro u54 U54
    simp only [Act.put, pu1, pu2, pu3]
    (refine eitherW (i := 40) (d := 55) (v := ?_) (b := (r7 == false)) rfl rfl (by kernel_rfl) (by kernel_rfl) (by kernel_rfl) (fun _ _ _ _ h => h) (by rfl) ?_ (by assumption) ?_)
    rotate_left
    · (intro hb W hSW; obtain rfl := U54.out hb; have hSW2 := hK.out W hSW; go_simp; (try with_reducible rfl))
    intro u55 U55
    simp only [Act.put, pu1, pu2, pu3]
    (refine eitherW (i := 41) (d := 56) (v := .bool b8) (b := (r7 == false)) rfl rfl (by kernel_rfl) (by kernel_rfl) (by kernel_rfl) (fun _ _ _ _ h => h) (by rfl) ?_ (by assumption) ?_)
    · (intro hb W hSW; obtain rfl := U55.out hb; rw [B8.out]; go_simp; (try with_reducible rfl))
    intro u56 U56
    simp only [Act.put, pu1, pu2, pu3]
    (refine tk 42 57 (.bool r8) rfl rfl (by kernel_rfl) (by rfl) ?_ (by assumption) ?_)
    · (intro W hSW; rw [R8.out]; cases r7 <;> first | rfl | (obtain rfl := U56.out rfl; rfl))
    simp only [Act.put, pu1, pu2, pu3]
    clear U54 U55 U56
    (refine tk 43 58 ?_ rfl rfl (by kernel_rfl) (by rfl) ?_ (by assumption) ?_)
    rotate_left
    · (intro W hSW; go_simp; (try with_reducible rfl))
    simp only [Act.put, pu1, pu2, pu3]
    (refine eitherW (i := 44) (d := 59) (v := ?_) (b := (r8 == false)) rfl rfl (by kernel_rfl) (by kernel_rfl) (by kernel_rfl) (fun _ _ _ _ h => h) (by rfl) ?_ (by assumption) ?_)
    rotate_left
    · (intro hb W hSW; go_simp; (try with_reducible rfl))
    intro u59 U59
    simp only [Act.put, pu1, pu2, pu3]
    (refine eitherW (i := 45) (d := 60) (v := ?_) (b := (r8 == false)) rfl rfl (by kernel_rfl) (by kernel_rfl) (by kernel_rfl) (fun _ _ _ _ h => h) (by rfl) ?_ (by assumption) ?_)
    rotate_left
    · (intro hb W hSW; obtain rfl := U59.out hb; have hSW2 := hK.out W hSW; go_simp; (try with_reducible rfl))
    intro u60 U60
    simp only [Act.put, pu1, pu2, pu3]
    (refine eitherW (i := 46) (d := 61) (v := .bool b9) (b := (r8 == false)) rfl rfl (by kernel_rfl) (by kernel_rfl) (by kernel_rfl) (fun _ _ _ _ h => h) (by rfl) ?_ (by assumption) ?_)
    · (intro hb W hSW; obtain rfl := U60.out hb; rw [B9.out]; go_simp; (try with_reducible rfl))
    intro u61 U61
    simp only [Act.put, pu1, pu2, pu3]
    (refine tk 47 62 (.bool r9) rfl rfl (by kernel_rfl) (by rfl) ?_ (by assumption) ?_)
    · (intro W hSW; rw [R9.out]; cases r8 <;> first | rfl | (obtain rfl := U61.out rfl; rfl))
    simp only [Act.put, pu1, pu2, pu3]
    clear U59 U60 U61
    (refine tk 48 63 ?_ rfl rfl (by kernel_rfl) (by rfl) ?_ (by assumption) ?_)
    rotate_left
    · (intro W hSW; go_simp; (try with_reducible rfl))
    simp only [Act.put, pu1, pu2, pu3]
    (refine eitherW (i := 49) (d := 64) (v := ?_) (b := (r9 == false)) rfl rfl (by kernel_rfl) (by kernel_rfl) (by kernel_rfl) (fun _ _ _ _ h => h) (by rfl) ?_ (by assumption) ?_)
    rotate_left
    · (intro hb W hSW; go_simp; (try with_reducible rfl))
    intro u64 U64
    simp only [Act.put, pu1, pu2, pu3]
    (refine eitherW (i := 50) (d := 65) (v := ?_) (b := (r9 == false)) rfl rfl (by kernel_rfl) (by kernel_rfl) (by kernel_rfl) (fun _ _ _ _ h => h) (by rfl) ?_ (by assumption) ?_)
    rotate_left
    · (intro hb W hSW; obtain rfl := U64.out hb; have hSW2 := hK.out W hSW; go_simp; (try with_reducible rfl))
    intro u65 U65
    simp only [Act.put, pu1, pu2, pu3]
    (refine eitherW (i := 51) (d := 66) (v := .bool b10) (b := (r9 == false)) rfl rfl (by kernel_rfl) (by kernel_rfl) (by kernel_rfl) (fun _ _ _ _ h => h) (by rfl) ?_ (by assumption) ?_)
    · (intro hb W hSW; obtain rfl := U65.out hb; rw [B10.out]; go_simp; (try with_reducible rfl))
    intro u66 U66
    simp only [Act.put, pu1, pu2, pu3]
    (refine tk 52 67 (.bool r10) rfl rfl (by kernel_rfl) (by rfl) ?_ (by assumption) ?_)
    · (intro W hSW; rw [R10.out]; cases r9 <;> first | rfl | (obtain rfl := U66.out rfl; rfl))
    simp only [Act.put, pu1, pu2, pu3]
    clear U64 U65 U66
    (refine tk 53 68 ?_ rfl rfl (by kernel_rfl) (by rfl) ?_ (by assumption) ?_)
    rotate_left
    · (intro W hSW; go_simp; (try with_reducible rfl))
    simp only [Act.put, pu1, pu2, pu3]
    (refine eitherW (i := 54) (d := 69) (v := ?_) (b := (r10 == false)) rfl rfl (by kernel_rfl) (by kernel_rfl) (by kernel_rfl) (fun _ _ _ _ h => h) (by rfl) ?_ (by assumption) ?_)
    rotate_left
    · (intro hb W hSW; go_simp; (try with_reducible rfl))
    intro u69 U69
    simp only [Act.put, pu1, pu2, pu3]
    (refine eitherW (i := 55) (d := 70) (v := ?_) (b := (r10 == false)) rfl rfl (by kernel_rfl) (by kernel_rfl) (by kernel_rfl) (fun _ _ _ _ h => h) (by rfl) ?_ (by assumption) ?_)
    rotate_left
    · (intro hb W hSW; obtain rfl := U69.out hb; have hSW2 := hK.out W hSW; go_simp; (try with_reducible rfl))
    intro u70 U70
    simp only [Act.put, pu1, pu2, pu3]
    (refine eitherW (i := 56) (d := 71) (v := .bool b11) (b := (r10 == false)) rfl rfl (by kernel_rfl) (by kernel_rfl) (by kernel_rfl) (fun _ _ _ _ h => h) (by rfl) ?_ (by assumption) ?_)
    · (intro hb W hSW; obtain rfl := U70.out hb; rw [B11.out]; go_simp; (try with_reducible rfl))
    intro u71 U71
    simp only [Act.put, pu1, pu2, pu3]
    (refine tk 57 72 (.bool r11) rfl rfl (by kernel_rfl) (by rfl) ?_ (by assumption) ?_)
    · (intro W hSW; rw [R11.out]; cases r10 <;> first | rfl | (obtain rfl := U71.out rfl; rfl))
    simp only [Act.put, pu1, pu2, pu3]
    clear U69 U70 U71
    (refine tk 58 73 ?_ rfl rfl (by kernel_rfl) (by rfl) ?_ (by assumption) ?_)
    rotate_left
    · (intro W hSW; go_simp; (try with_reducible rfl))
    simp only [Act.put, pu1, pu2, pu3]
    clear R1 R2 R3 R4 R5 R6 R7 R8 R9 R10 R11 B0 B1 B2 B3 B4 B5 B6 B7 B8 B9 B10 B11
    cases r11
    case true =>
     have HS : Hid (rightS s = false) := hid (HPx.out (HT.out rfl))
     refine skipW (i := 59) (d := 74) rfl rfl (by kernel_rfl) (by kernel_rfl) (by kernel_rfl) (fun _ _ _ h => h) (by rfl) (by assumption) ?_
     simp only [Act.put, pu1, pu2, pu3]
     refine skipW (i := 60) (d := 75) rfl rfl (by kernel_rfl) (by kernel_rfl) (by kernel_rfl) (fun _ _ _ h => h) (by rfl) (by assumption) ?_
     simp only [Act.put, pu1, pu2, pu3]
     refine skipW (i := 61) (d := 76) rfl rfl (by kernel_rfl) (by kernel_rfl) (by kernel_rfl) (fun _ _ _ h => h) (by rfl) (by assumption) ?_
     simp only [Act.put, pu1, pu2, pu3]
     refine skipW (i := 62) (d := 77) rfl rfl (by kernel_rfl) (by kernel_rfl) (by kernel_rfl) (fun _ _ _ h => h) (by rfl) (by assumption) ?_
     simp only [Act.put, pu1, pu2, pu3]
     refine skipW (i := 63) (d := 78) rfl rfl (by kernel_rfl) (by kernel_rfl) (by kernel_rfl) (fun _ _ _ h => h) (by rfl) (by assumption) ?_
     simp only [Act.put, pu1, pu2, pu3]
     (refine tk 64 79 ?_ rfl rfl (by kernel_rfl) (by rfl) ?_ (by assumption) ?_)
     rotate_left
     · (intro W hSW; go_simp; (try with_reducible rfl))
     simp only [Act.put, pu1, pu2, pu3]
     (refine tk 65 80 ?_ rfl rfl (by kernel_rfl) (by rfl) ?_ (by assumption) ?_)
     rotate_left
     · (intro W hSW; go_simp; (try with_reducible rfl))
     simp only [Act.put, pu1, pu2, pu3]
     refine skipW (i := 66) (d := 81) rfl rfl (by kernel_rfl) (by kernel_rfl) (by kernel_rfl) (fun _ _ _ h => h) (by rfl) (by assumption) ?_
     simp only [Act.put, pu1, pu2, pu3]
     refine skipW (i := 67) (d := 82) rfl rfl (by kernel_rfl) (by kernel_rfl) (by kernel_rfl) (fun _ _ _ h => h) (by rfl) (by assumption) ?_
     simp only [Act.put, pu1, pu2, pu3]
     refine skipW (i := 68) (d := 83) rfl rfl (by kernel_rfl) (by kernel_rfl) (by kernel_rfl) (fun _ _ _ h => h) (by rfl) (by assumption) ?_
     simp only [Act.put, pu1, pu2, pu3]
     refine skipW (i := 69) (d := 84) rfl rfl (by kernel_rfl) (by kernel_rfl) (by kernel_rfl) (fun _ _ _ h => h) (by rfl) (by assumption) ?_
     simp only [Act.put, pu1, pu2, pu3]
     refine skipW (i := 70) (d := 85) rfl rfl (by kernel_rfl) (by kernel_rfl) (by kernel_rfl) (fun _ _ _ h => h) (by rfl) (by assumption) ?_
     simp only [Act.put, pu1, pu2, pu3]
     refine skipW (i := 71) (d := 86) rfl rfl (by kernel_rfl) (by kernel_rfl) (by kernel_rfl) (fun _ _ _ h => h) (by rfl) (by assumption) ?_
     simp only [Act.put, pu1, pu2, pu3]
     refine skipW (i := 72) (d := 87) rfl rfl (by kernel_rfl) (by kernel_rfl) (by kernel_rfl) (fun _ _ _ h => h) (by rfl) (by assumption) ?_
     simp only [Act.put, pu1, pu2, pu3]
     (refine tk 73 88 ?_ rfl rfl (by kernel_rfl) (by rfl) ?_ (by assumption) ?_)
     rotate_left
     · (intro W hSW; go_simp; (try with_reducible rfl))
     simp only [Act.put, pu1, pu2, pu3]
     refine wpAnyH_done (by kernel_rfl) ?_ _
     refine NoPanic.normal ?_
     go_wp2_with fail
     go_ret
     exact ⟨by rw [HS.out]; rfl, Ev.bt HBx.out (by first | with_reducible assumption | exact Ev.bdn (Ev.br _) _ | exact Ev.bd1 (Ev.br _) | exact Ev.br _)⟩
    case false =>
     (refine tk 60 75 ?_ rfl rfl (by kernel_rfl) (by rfl) ?_ (by assumption) ?_)
     rotate_left
     · (intro W hSW; go_simp; (try with_reducible rfl))
     simp only [Act.put, pu1, pu2, pu3]
     (refine tk 61 76 ?_ rfl rfl (by kernel_rfl) (by rfl) ?_ (by assumption) ?_)
     rotate_left
     · (intro W hSW; have hSW2 := hK.out W hSW; go_simp; (try with_reducible rfl))
     simp only [Act.put, pu1, pu2, pu3]
     refine wpAnyH_ready (rs := [59]) (by kernel_rfl) (by simp) ?_
     refine AllReadyH.cons (i := 59) rfl (fun K hKK => ?_) AllReadyH.nil
     go_simp
     ((refine (rbox60_c _).mono ?_); rintro e y1 ⟨rfl, g1⟩; have hgy1 := Ev.bt (show Below w1.heap.size w1 _ by first | with_reducible assumption | exact Ev.bdn (Ev.br _) _ | exact Ev.bd1 (Ev.br _) | exact Ev.br _) g1)
     dsimp only
     refine hKK.out _ _ hgy1 (fun hHeld => ?_)
     clear hKK K
     (try simp only [Act.put, pu1, pu2, pu3])
     cases q12 : insideB (-3932160) (-3932160) 3932160 3932160 x.ax x.ay
     · have HS : Hid (rightS s = false) := hid (HPx.out (play_out q12))
       refine wpAnyH_ready (rs := [62]) (by kernel_rfl) (by simp) ?_
       refine AllReadyH.cons (i := 62) rfl (fun K hKK => ?_) AllReadyH.nil
       go_simp
       ((refine (Sh.rinside_c _ _ _ _ _ _ _).mono ?_); rintro e y2 ⟨rfl, g2⟩; have hgy2 := Ev.bt (show Below w1.heap.size w1 _ by first | with_reducible assumption | exact Ev.bdn (Ev.br _) _ | exact Ev.bd1 (Ev.br _) | exact Ev.br _) g2; rw [q12])
       dsimp only
       refine hKK.out _ _ hgy2 (fun hHeld => ?_)
       clear hKK K
       (try simp only [Act.put, pu1, pu2, pu3])
       (refine tk 63 78 ?_ rfl rfl (by kernel_rfl) (by rfl) ?_ (by assumption) ?_)
       rotate_left
       · (intro W hSW; go_simp; (try with_reducible rfl))
       simp only [Act.put, pu1, pu2, pu3]
       (refine tk 64 79 ?_ rfl rfl (by kernel_rfl) (by rfl) ?_ (by assumption) ?_)
       rotate_left
       · (intro W hSW; go_simp; (try with_reducible rfl))
       simp only [Act.put, pu1, pu2, pu3]
       (refine tk 65 80 ?_ rfl rfl (by kernel_rfl) (by rfl) ?_ (by assumption) ?_)
       rotate_left
       · (intro W hSW; go_simp; (try with_reducible rfl))
       simp only [Act.put, pu1, pu2, pu3]
       refine skipW (i := 66) (d := 81) rfl rfl (by kernel_rfl) (by kernel_rfl) (by kernel_rfl) (fun _ _ _ h => h) (by rfl) (by assumption) ?_
       simp only [Act.put, pu1, pu2, pu3]
       refine skipW (i := 67) (d := 82) rfl rfl (by kernel_rfl) (by kernel_rfl) (by kernel_rfl) (fun _ _ _ h => h) (by rfl) (by assumption) ?_
       simp only [Act.put, pu1, pu2, pu3]
       refine skipW (i := 68) (d := 83) rfl rfl (by kernel_rfl) (by kernel_rfl) (by kernel_rfl) (fun _ _ _ h => h) (by rfl) (by assumption) ?_
       simp only [Act.put, pu1, pu2, pu3]
       refine skipW (i := 69) (d := 84) rfl rfl (by kernel_rfl) (by kernel_rfl) (by kernel_rfl) (fun _ _ _ h => h) (by rfl) (by assumption) ?_
       simp only [Act.put, pu1, pu2, pu3]
       refine skipW (i := 70) (d := 85) rfl rfl (by kernel_rfl) (by kernel_rfl) (by kernel_rfl) (fun _ _ _ h => h) (by rfl) (by assumption) ?_
       simp only [Act.put, pu1, pu2, pu3]
       refine skipW (i := 71) (d := 86) rfl rfl (by kernel_rfl) (by kernel_rfl) (by kernel_rfl) (fun _ _ _ h => h) (by rfl) (by assumption) ?_
       simp only [Act.put, pu1, pu2, pu3]
       refine skipW (i := 72) (d := 87) rfl rfl (by kernel_rfl) (by kernel_rfl) (by kernel_rfl) (fun _ _ _ h => h) (by rfl) (by assumption) ?_
       simp only [Act.put, pu1, pu2, pu3]
       (refine tk 73 88 ?_ rfl rfl (by kernel_rfl) (by rfl) ?_ (by assumption) ?_)
       rotate_left
       · (intro W hSW; go_simp; (try with_reducible rfl))
       simp only [Act.put, pu1, pu2, pu3]
       refine wpAnyH_done (by kernel_rfl) ?_ _
       refine NoPanic.normal ?_
       go_wp2_with fail
       go_ret
       exact ⟨by rw [HS.out]; rfl, Ev.bt HBx.out (by first | with_reducible assumption | exact Ev.bdn (Ev.br _) _ | exact Ev.bd1 (Ev.br _) | exact Ev.br _)⟩
     · refine wpAnyH_ready (rs := [62]) (by kernel_rfl) (by simp) ?_
       refine AllReadyH.cons (i := 62) rfl (fun K hKK => ?_) AllReadyH.nil
       go_simp
       ((refine (Sh.rinside_c _ _ _ _ _ _ _).mono ?_); rintro e y2 ⟨rfl, g2⟩; have hgy2 := Ev.bt (show Below w1.heap.size w1 _ by first | with_reducible assumption | exact Ev.bdn (Ev.br _) _ | exact Ev.bd1 (Ev.br _) | exact Ev.br _) g2; rw [q12])
       dsimp only
       refine hKK.out _ _ hgy2 (fun hHeld => ?_)
       clear hKK K
       (try simp only [Act.put, pu1, pu2, pu3])
       (refine tk 63 78 ?_ rfl rfl (by kernel_rfl) (by rfl) ?_ (by assumption) ?_)
       rotate_left
       · (intro W hSW; go_simp; (try with_reducible rfl))
       simp only [Act.put, pu1, pu2, pu3]
       (refine tk 64 79 ?_ rfl rfl (by kernel_rfl) (by rfl) ?_ (by assumption) ?_)
       rotate_left
       · (intro W hSW; go_simp; (try with_reducible rfl))
       simp only [Act.put, pu1, pu2, pu3]
       (refine tk 65 80 ?_ rfl rfl (by kernel_rfl) (by rfl) ?_ (by assumption) ?_)
       rotate_left
       · (intro W hSW; go_simp; (try with_reducible rfl))
       simp only [Act.put, pu1, pu2, pu3]
       (refine tk 66 81 ?_ rfl rfl (by kernel_rfl) (by rfl) ?_ (by assumption) ?_)
       rotate_left
       · (intro W hSW; go_simp; (try with_reducible rfl))
       simp only [Act.put, pu1, pu2, pu3]
       (refine tk 67 82 ?_ rfl rfl (by kernel_rfl) (by rfl) ?_ (by assumption) ?_)
       rotate_left
       · (intro W hSW; have hSW2 := hK.out W hSW; go_simp; (try with_reducible rfl))
       simp only [Act.put, pu1, pu2, pu3]
       (refine tk 68 83 ?_ rfl rfl (by kernel_rfl) (by rfl) ?_ (by assumption) ?_)
       rotate_left
       · (intro W hSW; go_simp; (try with_reducible rfl))
       simp only [Act.put, pu1, pu2, pu3]
       (refine tk 69 84 ?_ rfl rfl (by kernel_rfl) (by rfl) ?_ (by assumption) ?_)
       rotate_left
       · (intro W hSW; go_simp; (try with_reducible rfl))
       simp only [Act.put, pu1, pu2, pu3]
       (refine tk 70 85 ?_ rfl rfl (by kernel_rfl) (by rfl) ?_ (by assumption) ?_)
       rotate_left
       · (intro W hSW; have hSW2 := hK.out W hSW; go_simp; (try with_reducible rfl))
       simp only [Act.put, pu1, pu2, pu3]
       (refine tk 71 86 ?_ rfl rfl (by kernel_rfl) (by rfl) ?_ (by assumption) ?_)
       rotate_left
       · (intro W hSW; go_simp; (try with_reducible rfl))
       simp only [Act.put, pu1, pu2, pu3]
       cases q13 : (decide (0 < x.hp) == decide (x.dn = 0))
       · have HS : Hid (rightS s = false) := hid (HPx.out (play_up q13))
         (refine tk 72 87 (.bool true) rfl rfl (by kernel_rfl) (by rfl) ?_ (by assumption) ?_)
         · (intro W hSW; go_simp; (try (intro h; rw [show (x.dn == 0) = decide (x.dn = 0) from rfl] at h; rw [h] at q13; simp at q13)))
         simp only [Act.put, pu1, pu2, pu3]
         (refine tk 73 88 ?_ rfl rfl (by kernel_rfl) (by rfl) ?_ (by assumption) ?_)
         rotate_left
         · (intro W hSW; go_simp; (try with_reducible rfl))
         simp only [Act.put, pu1, pu2, pu3]
         refine wpAnyH_done (by kernel_rfl) ?_ _
         refine NoPanic.normal ?_
         go_wp2_with fail
         go_ret
         exact ⟨by rw [HS.out]; rfl, Ev.bt HBx.out (by first | with_reducible assumption | exact Ev.bdn (Ev.br _) _ | exact Ev.bd1 (Ev.br _) | exact Ev.br _)⟩
       · have HR2 := HPy.out (HF.out rfl q12 q13)
         (refine tk 72 87 (.bool false) rfl rfl (by kernel_rfl) (by rfl) ?_ (by assumption) ?_)
         · (intro W hSW; go_simp; (try (rw [show (x.dn == 0) = decide (x.dn = 0) from rfl]; exact eq_of_beq q13)))
         simp only [Act.put, pu1, pu2, pu3]
         (refine tk 73 88 ?_ rfl rfl (by kernel_rfl) (by rfl) ?_ (by assumption) ?_)
         rotate_left
         · (intro W hSW; go_simp; (try with_reducible rfl))
         simp only [Act.put, pu1, pu2, pu3]
         refine wpAnyH_done (by kernel_rfl) ?_ _
         refine NoPanic.normal ?_
         go_wp2_with fail
         go_roundw
         case rel => exact ⟨k + 1, by omega, by go_num, Ev.bt HBy.out (by first | with_reducible assumption | exact Ev.bdn (Ev.br _) _ | exact Ev.bd1 (Ev.br _) | exact Ev.br _), HR2⟩
         case measure => simp [intOf]; omega
  · have hk2 : k = 2 := by omega
    subst hk2
    have HB1 := hid (Ev.bt HB.out hg)
    have HRP := hr
    have HA1 := HAr
    clear hr hg HAr
    go_wp2_with fail
    generalize wr = w1 at HA1 HB1 ⊢
    go_loopw [5] (fun i wr => ∃ k : Nat, k ≤ 6 ∧ i = .int .i64 k ∧ Below w1.heap.size w1 wr ∧ Hid (∀ j, j < k → freeB (shS s j) = true)) (fun i _ => 6 - (intOf i).toNat)
    case atStart => exact ⟨0, by decide, rfl, Ev.br _, hid (fun j hj => by omega)⟩
    case round =>
     obtain ⟨k, hk, rfl, hg, hr⟩ := hrel
     have HAr := hid (HA1.out.below hg)
     by_cases hlt : k < 6
     · have hk1 : (k : Int) < 6 := by omega
       have hk0 : (0 : Int) ≤ (k : Int) := by omega
       have HI := hid (stC_bk s k hlt)
       have HPx : Hid (freeB (shS s k) = false → rightS s = false) := hid (fun h => rightS_sh hlt h)
       have HPy : Hid (freeB (shS s k) = true → Hid (∀ j, j < k + 1 → freeB (shS s j) = true)) := hid (fun h => hid (fun j hj => by
        rcases Nat.lt_or_eq_of_le (Nat.le_of_lt_succ hj) with e | e
        · exact hr.out j e
        · rw [e]; exact h))
       clear hr
       generalize shS s k = x at HI HPx HPy
       go_upto_region 11 with (refine wpList_load_at rfl 32 _ rfl w.heap.size (24 + k * 6) rfl 35 _ (buC x) (0, 0) _ HAr.out Tryz.underlying32 rfl (by kernel_rfl) HI.out ?_)
       have HX := hid (At.new wr (buA x) 32)
       have HBx := hid (Ev.bt HB1.out (Ev.bt hg (Ev.bal (Ev.br wr) (.cells (buA x) 32))))
       have HBy := hid (Ev.bt hg (Ev.bal (Ev.br wr) (.cells (buA x) 32)))
       generalize World.alloc wr _ = w2 at HX HBx HBy ⊢
       generalize wr.heap.size = C at HX ⊢
       have hK := hid (fun W (g : Below w2.heap.size w2 W) => at_bu (HX.out.below g))
       cases hz : decide (x = zeroB)
       case true =>
        have HR2 := HPy.out (by unfold freeB; rw [hz]; rfl)
        have hn : ∀ w, (binOp .neq 32 (buV x) (.agg #[.int .i32 0, .int .i32 0, .int .i32 0, .int .i32 0, .int .i64 0, .int .i64 0])).run Tryz.prog w = .ok (.bool false) w := fun w => by have := neqB x zeroB w; rw [hz] at this; exact this
        have hgB := guardB
        refine wp_region_noPanic ?_
        refine wp_region_held_drew (S := (fun W => Below w2.heap.size w2 W)) (by kernel_rfl) (by first | exact Ev.bd1 (Ev.br _) | exact Ev.bdn (Ev.br _) _ | exact Ev.br _) (fun hHeld => ?_)
        (refine tk 0 97 ?_ rfl rfl (by kernel_rfl) (by rfl) ?_ (by assumption) ?_)
        rotate_left
        · (intro W hSW; have hSW2 := hK.out W hSW; go_simp; (try with_reducible rfl))
        simp only [Act.put, pu1, pu2, pu3]
        (refine tk 1 98 ?_ rfl rfl (by kernel_rfl) (by rfl) ?_ (by assumption) ?_)
        rotate_left
        · (intro W hSW; go_simp; (try with_reducible rfl))
        simp only [Act.put, pu1, pu2, pu3]
        (refine tk 2 99 (.bool false) rfl rfl (by kernel_rfl) (by rfl) ?_ (by assumption) ?_)
        · (intro W hSW; have hn2 := hn W; go_simp; (try with_reducible rfl))
        simp only [Act.put, pu1, pu2, pu3]
        (refine tk 3 100 ?_ rfl rfl (by kernel_rfl) (by rfl) ?_ (by assumption) ?_)
        rotate_left
        · (intro W hSW; go_simp; (try with_reducible rfl))
        simp only [Act.put, pu1, pu2, pu3]
        refine skipW (i := 4) (d := 101) rfl rfl (by kernel_rfl) (by kernel_rfl) (by kernel_rfl) (fun _ _ _ h => h) (by rfl) (by assumption) ?_
        simp only [Act.put, pu1, pu2, pu3]
        refine skipW (i := 5) (d := 102) rfl rfl (by kernel_rfl) (by kernel_rfl) (by kernel_rfl) (fun _ _ _ h => h) (by rfl) (by assumption) ?_
        simp only [Act.put, pu1, pu2, pu3]
        refine skipW (i := 6) (d := 103) rfl rfl (by kernel_rfl) (by kernel_rfl) (by kernel_rfl) (fun _ _ _ h => h) (by rfl) (by assumption) ?_
        simp only [Act.put, pu1, pu2, pu3]
        refine skipW (i := 7) (d := 104) rfl rfl (by kernel_rfl) (by kernel_rfl) (by kernel_rfl) (fun _ _ _ h => h) (by rfl) (by assumption) ?_
        simp only [Act.put, pu1, pu2, pu3]
        refine skipW (i := 8) (d := 105) rfl rfl (by kernel_rfl) (by kernel_rfl) (by kernel_rfl) (fun _ _ _ h => h) (by rfl) (by assumption) ?_
        simp only [Act.put, pu1, pu2, pu3]
        refine skipW (i := 9) (d := 106) rfl rfl (by kernel_rfl) (by kernel_rfl) (by kernel_rfl) (fun _ _ _ h => h) (by rfl) (by assumption) ?_
        simp only [Act.put, pu1, pu2, pu3]
        refine skipW (i := 10) (d := 107) rfl rfl (by kernel_rfl) (by kernel_rfl) (by kernel_rfl) (fun _ _ _ h => h) (by rfl) (by assumption) ?_
        simp only [Act.put, pu1, pu2, pu3]
        refine skipW (i := 11) (d := 108) rfl rfl (by kernel_rfl) (by kernel_rfl) (by kernel_rfl) (fun _ _ _ h => h) (by rfl) (by assumption) ?_
        simp only [Act.put, pu1, pu2, pu3]
        refine skipW (i := 12) (d := 109) rfl rfl (by kernel_rfl) (by kernel_rfl) (by kernel_rfl) (fun _ _ _ h => h) (by rfl) (by assumption) ?_
        simp only [Act.put, pu1, pu2, pu3]
        refine skipW (i := 13) (d := 110) rfl rfl (by kernel_rfl) (by kernel_rfl) (by kernel_rfl) (fun _ _ _ h => h) (by rfl) (by assumption) ?_
        simp only [Act.put, pu1, pu2, pu3]
        refine skipW (i := 14) (d := 111) rfl rfl (by kernel_rfl) (by kernel_rfl) (by kernel_rfl) (fun _ _ _ h => h) (by rfl) (by assumption) ?_
        simp only [Act.put, pu1, pu2, pu3]
        refine skipW (i := 15) (d := 112) rfl rfl (by kernel_rfl) (by kernel_rfl) (by kernel_rfl) (fun _ _ _ h => h) (by rfl) (by assumption) ?_
        simp only [Act.put, pu1, pu2, pu3]
        refine skipW (i := 16) (d := 113) rfl rfl (by kernel_rfl) (by kernel_rfl) (by kernel_rfl) (fun _ _ _ h => h) (by rfl) (by assumption) ?_
        simp only [Act.put, pu1, pu2, pu3]
        refine skipW (i := 17) (d := 114) rfl rfl (by kernel_rfl) (by kernel_rfl) (by kernel_rfl) (fun _ _ _ h => h) (by rfl) (by assumption) ?_
        simp only [Act.put, pu1, pu2, pu3]
        refine skipW (i := 18) (d := 115) rfl rfl (by kernel_rfl) (by kernel_rfl) (by kernel_rfl) (fun _ _ _ h => h) (by rfl) (by assumption) ?_
        simp only [Act.put, pu1, pu2, pu3]
        refine skipW (i := 19) (d := 116) rfl rfl (by kernel_rfl) (by kernel_rfl) (by kernel_rfl) (fun _ _ _ h => h) (by rfl) (by assumption) ?_
        simp only [Act.put, pu1, pu2, pu3]
        refine skipW (i := 20) (d := 117) rfl rfl (by kernel_rfl) (by kernel_rfl) (by kernel_rfl) (fun _ _ _ h => h) (by rfl) (by assumption) ?_
        simp only [Act.put, pu1, pu2, pu3]
        refine skipW (i := 21) (d := 118) rfl rfl (by kernel_rfl) (by kernel_rfl) (by kernel_rfl) (fun _ _ _ h => h) (by rfl) (by assumption) ?_
        simp only [Act.put, pu1, pu2, pu3]
        refine skipW (i := 22) (d := 119) rfl rfl (by kernel_rfl) (by kernel_rfl) (by kernel_rfl) (fun _ _ _ h => h) (by rfl) (by assumption) ?_
        simp only [Act.put, pu1, pu2, pu3]
        refine skipW (i := 23) (d := 120) rfl rfl (by kernel_rfl) (by kernel_rfl) (by kernel_rfl) (fun _ _ _ h => h) (by rfl) (by assumption) ?_
        simp only [Act.put, pu1, pu2, pu3]
        refine skipW (i := 24) (d := 121) rfl rfl (by kernel_rfl) (by kernel_rfl) (by kernel_rfl) (fun _ _ _ h => h) (by rfl) (by assumption) ?_
        simp only [Act.put, pu1, pu2, pu3]
        refine skipW (i := 25) (d := 122) rfl rfl (by kernel_rfl) (by kernel_rfl) (by kernel_rfl) (fun _ _ _ h => h) (by rfl) (by assumption) ?_
        simp only [Act.put, pu1, pu2, pu3]
        refine skipW (i := 26) (d := 123) rfl rfl (by kernel_rfl) (by kernel_rfl) (by kernel_rfl) (fun _ _ _ h => h) (by rfl) (by assumption) ?_
        simp only [Act.put, pu1, pu2, pu3]
        refine skipW (i := 27) (d := 124) rfl rfl (by kernel_rfl) (by kernel_rfl) (by kernel_rfl) (fun _ _ _ h => h) (by rfl) (by assumption) ?_
        simp only [Act.put, pu1, pu2, pu3]
        refine skipW (i := 28) (d := 125) rfl rfl (by kernel_rfl) (by kernel_rfl) (by kernel_rfl) (fun _ _ _ h => h) (by rfl) (by assumption) ?_
        simp only [Act.put, pu1, pu2, pu3]
        (refine tk 29 126 ?_ rfl rfl (by kernel_rfl) (by rfl) ?_ (by assumption) ?_)
        rotate_left
        · (intro W hSW; go_simp; (try with_reducible rfl))
        simp only [Act.put, pu1, pu2, pu3]
        refine wpAnyH_done (by kernel_rfl) ?_ _
        refine NoPanic.normal ?_
        clear hn hgB
        go_wp2_with fail
        go_roundw
        case rel => first | exact ⟨k + 1, by omega, by go_num, Ev.bt HBy.out (by first | with_reducible assumption | exact Ev.bdn (Ev.br _) _ | exact Ev.bd1 (Ev.br _) | exact Ev.br _), HR2⟩ | ((repeat apply Exists.intro); exact ⟨⟨k + 1, by omega, by go_num, Ev.bt HBy.out (by first | with_reducible assumption | exact Ev.bdn (Ev.br _) _ | exact Ev.bd1 (Ev.br _) | exact Ev.br _), HR2⟩, rfl⟩)
        case measure => simp [intOf]; omega
       case false =>
        have hn : ∀ w, (binOp .neq 32 (buV x) (.agg #[.int .i32 0, .int .i32 0, .int .i32 0, .int .i32 0, .int .i64 0, .int .i64 0])).run Tryz.prog w = .ok (.bool true) w := fun w => by have := neqB x zeroB w; rw [hz] at this; exact this
        have hgB := guardB
        obtain ⟨b0, hb0⟩ : ∃ b, b = decide (x.ow < 1) := ⟨_, rfl⟩
        obtain ⟨b1, hb1⟩ : ∃ b, b = decide (2 < x.ow) := ⟨_, rfl⟩
        obtain ⟨b2, hb2⟩ : ∃ b, b = decide (x.li < 1) := ⟨_, rfl⟩
        obtain ⟨b3, hb3⟩ : ∃ b, b = decide (40 < x.li) := ⟨_, rfl⟩
        obtain ⟨r1, hr1⟩ : ∃ r, r = (b0 || b1) := ⟨_, rfl⟩
        obtain ⟨r2, hr2⟩ : ∃ r, r = (r1 || b2) := ⟨_, rfl⟩
        obtain ⟨r3, hr3⟩ : ∃ r, r = (r2 || b3) := ⟨_, rfl⟩
        have HT : Hid (r3 = true → freeB x = false) := hid (fun h => free_no hz (by simp only [hr3, hr2, hr1, hb0, hb1, hb2, hb3, Bool.or_eq_true, decide_eq_true_iff] at h; omega))
        have HF : Hid (r3 = false → insideB (-4194304) (-4194304) 4194304 4194304 x.ax x.ay = true → freeB x = true) := hid (fun h h1 => free_yes (by simp only [hr3, hr2, hr1, hb0, hb1, hb2, hb3, Bool.or_eq_false_iff, decide_eq_false_iff_not] at h; omega) h1)
        have B0 := hid hb0; clear hb0
        have B1 := hid hb1; clear hb1
        have B2 := hid hb2; clear hb2
        have B3 := hid hb3; clear hb3
        have R1 := hid hr1; clear hr1
        have R2 := hid hr2; clear hr2
        have R3 := hid hr3; clear hr3
        refine wp_region_noPanic ?_
        refine wp_region_held_drew (S := (fun W => Below w2.heap.size w2 W)) (by kernel_rfl) (by first | exact Ev.bd1 (Ev.br _) | exact Ev.bdn (Ev.br _) _ | exact Ev.br _) (fun hHeld => ?_)
        (refine tk 0 97 ?_ rfl rfl (by kernel_rfl) (by rfl) ?_ (by assumption) ?_)
        rotate_left
        · (intro W hSW; have hSW2 := hK.out W hSW; go_simp; (try with_reducible rfl))
        simp only [Act.put, pu1, pu2, pu3]
        (refine tk 1 98 ?_ rfl rfl (by kernel_rfl) (by rfl) ?_ (by assumption) ?_)
        rotate_left
        · (intro W hSW; go_simp; (try with_reducible rfl))
        simp only [Act.put, pu1, pu2, pu3]
        (refine tk 2 99 (.bool true) rfl rfl (by kernel_rfl) (by rfl) ?_ (by assumption) ?_)
        · (intro W hSW; have hn2 := hn W; go_simp; (try with_reducible rfl))
        simp only [Act.put, pu1, pu2, pu3]
        (refine tk 3 100 ?_ rfl rfl (by kernel_rfl) (by rfl) ?_ (by assumption) ?_)
        rotate_left
        · (intro W hSW; go_simp; (try with_reducible rfl))
        simp only [Act.put, pu1, pu2, pu3]
        (refine tk 4 101 ?_ rfl rfl (by kernel_rfl) (by rfl) ?_ (by assumption) ?_)
        rotate_left
        · (intro W hSW; go_simp; (try with_reducible rfl))
        simp only [Act.put, pu1, pu2, pu3]
        (refine tk 5 102 ?_ rfl rfl (by kernel_rfl) (by rfl) ?_ (by assumption) ?_)
        rotate_left
        · (intro W hSW; have hSW2 := hK.out W hSW; go_simp; (try with_reducible rfl))
        simp only [Act.put, pu1, pu2, pu3]
        (refine tk 6 103 (.bool b0) rfl rfl (by kernel_rfl) (by rfl) ?_ (by assumption) ?_)
        · (intro W hSW; rw [B0.out]; go_simp; (try with_reducible rfl))
        simp only [Act.put, pu1, pu2, pu3]
        (refine tk 7 104 ?_ rfl rfl (by kernel_rfl) (by rfl) ?_ (by assumption) ?_)
        rotate_left
        · (intro W hSW; go_simp; (try with_reducible rfl))
        simp only [Act.put, pu1, pu2, pu3]
        (refine eitherW (i := 8) (d := 105) (v := ?_) (b := (b0 == false)) rfl rfl (by kernel_rfl) (by kernel_rfl) (by kernel_rfl) (fun _ _ _ _ h => h) (by rfl) ?_ (by assumption) ?_)
        rotate_left
        · (intro hb W hSW; go_simp; (try with_reducible rfl))
        intro u105 U105
        simp only [Act.put, pu1, pu2, pu3]
        (refine eitherW (i := 9) (d := 106) (v := ?_) (b := (b0 == false)) rfl rfl (by kernel_rfl) (by kernel_rfl) (by kernel_rfl) (fun _ _ _ _ h => h) (by rfl) ?_ (by assumption) ?_)
        rotate_left
        · (intro hb W hSW; obtain rfl := U105.out hb; have hSW2 := hK.out W hSW; go_simp; (try with_reducible rfl))
        intro u106 U106
        simp only [Act.put, pu1, pu2, pu3]
        (refine eitherW (i := 10) (d := 107) (v := .bool b1) (b := (b0 == false)) rfl rfl (by kernel_rfl) (by kernel_rfl) (by kernel_rfl) (fun _ _ _ _ h => h) (by rfl) ?_ (by assumption) ?_)
        · (intro hb W hSW; obtain rfl := U106.out hb; rw [B1.out]; go_simp; (try with_reducible rfl))
        intro u107 U107
        simp only [Act.put, pu1, pu2, pu3]
        (refine tk 11 108 (.bool r1) rfl rfl (by kernel_rfl) (by rfl) ?_ (by assumption) ?_)
        · (intro W hSW; rw [R1.out]; cases b0 <;> first | rfl | (obtain rfl := U107.out rfl; rfl))
        simp only [Act.put, pu1, pu2, pu3]
        clear U105 U106 U107
        (refine tk 12 109 ?_ rfl rfl (by kernel_rfl) (by rfl) ?_ (by assumption) ?_)
        rotate_left
        · (intro W hSW; go_simp; (try with_reducible rfl))
        simp only [Act.put, pu1, pu2, pu3]
        (refine eitherW (i := 13) (d := 110) (v := ?_) (b := (r1 == false)) rfl rfl (by kernel_rfl) (by kernel_rfl) (by kernel_rfl) (fun _ _ _ _ h => h) (by rfl) ?_ (by assumption) ?_)
        rotate_left
        · (intro hb W hSW; go_simp; (try with_reducible rfl))
        intro u110 U110
        simp only [Act.put, pu1, pu2, pu3]
        (refine eitherW (i := 14) (d := 111) (v := ?_) (b := (r1 == false)) rfl rfl (by kernel_rfl) (by kernel_rfl) (by kernel_rfl) (fun _ _ _ _ h => h) (by rfl) ?_ (by assumption) ?_)
        rotate_left
        · (intro hb W hSW; obtain rfl := U110.out hb; have hSW2 := hK.out W hSW; go_simp; (try with_reducible rfl))
        intro u111 U111
        simp only [Act.put, pu1, pu2, pu3]
        (refine eitherW (i := 15) (d := 112) (v := .bool b2) (b := (r1 == false)) rfl rfl (by kernel_rfl) (by kernel_rfl) (by kernel_rfl) (fun _ _ _ _ h => h) (by rfl) ?_ (by assumption) ?_)
        · (intro hb W hSW; obtain rfl := U111.out hb; rw [B2.out]; go_simp; (try with_reducible rfl))
        intro u112 U112
        simp only [Act.put, pu1, pu2, pu3]
        (refine tk 16 113 (.bool r2) rfl rfl (by kernel_rfl) (by rfl) ?_ (by assumption) ?_)
        · (intro W hSW; rw [R2.out]; cases r1 <;> first | rfl | (obtain rfl := U112.out rfl; rfl))
        simp only [Act.put, pu1, pu2, pu3]
        clear U110 U111 U112
        (refine tk 17 114 ?_ rfl rfl (by kernel_rfl) (by rfl) ?_ (by assumption) ?_)
        rotate_left
        · (intro W hSW; go_simp; (try with_reducible rfl))
        simp only [Act.put, pu1, pu2, pu3]
        (refine eitherW (i := 18) (d := 115) (v := ?_) (b := (r2 == false)) rfl rfl (by kernel_rfl) (by kernel_rfl) (by kernel_rfl) (fun _ _ _ _ h => h) (by rfl) ?_ (by assumption) ?_)
        rotate_left
        · (intro hb W hSW; go_simp; (try with_reducible rfl))
        intro u115 U115
        simp only [Act.put, pu1, pu2, pu3]
        (refine eitherW (i := 19) (d := 116) (v := ?_) (b := (r2 == false)) rfl rfl (by kernel_rfl) (by kernel_rfl) (by kernel_rfl) (fun _ _ _ _ h => h) (by rfl) ?_ (by assumption) ?_)
        rotate_left
        · (intro hb W hSW; obtain rfl := U115.out hb; have hSW2 := hK.out W hSW; go_simp; (try with_reducible rfl))
        intro u116 U116
        simp only [Act.put, pu1, pu2, pu3]
        (refine eitherW (i := 20) (d := 117) (v := .bool b3) (b := (r2 == false)) rfl rfl (by kernel_rfl) (by kernel_rfl) (by kernel_rfl) (fun _ _ _ _ h => h) (by rfl) ?_ (by assumption) ?_)
        · (intro hb W hSW; obtain rfl := U116.out hb; rw [B3.out]; go_simp; (try with_reducible rfl))
        intro u117 U117
        simp only [Act.put, pu1, pu2, pu3]
        (refine tk 21 118 (.bool r3) rfl rfl (by kernel_rfl) (by rfl) ?_ (by assumption) ?_)
        · (intro W hSW; rw [R3.out]; cases r2 <;> first | rfl | (obtain rfl := U117.out rfl; rfl))
        simp only [Act.put, pu1, pu2, pu3]
        clear U115 U116 U117
        (refine tk 22 119 ?_ rfl rfl (by kernel_rfl) (by rfl) ?_ (by assumption) ?_)
        rotate_left
        · (intro W hSW; go_simp; (try with_reducible rfl))
        simp only [Act.put, pu1, pu2, pu3]
        clear hn hgB R1 R2 R3 B0 B1 B2 B3
        cases r3
        case true =>
         have HS : Hid (rightS s = false) := hid (HPx.out (HT.out rfl))
         refine skipW (i := 23) (d := 120) rfl rfl (by kernel_rfl) (by kernel_rfl) (by kernel_rfl) (fun _ _ _ h => h) (by rfl) (by assumption) ?_
         simp only [Act.put, pu1, pu2, pu3]
         refine skipW (i := 24) (d := 121) rfl rfl (by kernel_rfl) (by kernel_rfl) (by kernel_rfl) (fun _ _ _ h => h) (by rfl) (by assumption) ?_
         simp only [Act.put, pu1, pu2, pu3]
         refine skipW (i := 25) (d := 122) rfl rfl (by kernel_rfl) (by kernel_rfl) (by kernel_rfl) (fun _ _ _ h => h) (by rfl) (by assumption) ?_
         simp only [Act.put, pu1, pu2, pu3]
         refine skipW (i := 26) (d := 123) rfl rfl (by kernel_rfl) (by kernel_rfl) (by kernel_rfl) (fun _ _ _ h => h) (by rfl) (by assumption) ?_
         simp only [Act.put, pu1, pu2, pu3]
         refine skipW (i := 27) (d := 124) rfl rfl (by kernel_rfl) (by kernel_rfl) (by kernel_rfl) (fun _ _ _ h => h) (by rfl) (by assumption) ?_
         simp only [Act.put, pu1, pu2, pu3]
         (refine tk 28 125 ?_ rfl rfl (by kernel_rfl) (by rfl) ?_ (by assumption) ?_)
         rotate_left
         · (intro W hSW; go_simp; (try with_reducible rfl))
         simp only [Act.put, pu1, pu2, pu3]
         (refine tk 29 126 ?_ rfl rfl (by kernel_rfl) (by rfl) ?_ (by assumption) ?_)
         rotate_left
         · (intro W hSW; go_simp; (try with_reducible rfl))
         simp only [Act.put, pu1, pu2, pu3]
         refine wpAnyH_done (by kernel_rfl) ?_ _
         refine NoPanic.normal ?_
         go_wp2_with fail
         go_ret
         exact ⟨by rw [HS.out]; rfl, Ev.bt HBx.out (by first | with_reducible assumption | exact Ev.bdn (Ev.br _) _ | exact Ev.bd1 (Ev.br _) | exact Ev.br _)⟩
        case false =>
         (refine tk 24 121 ?_ rfl rfl (by kernel_rfl) (by rfl) ?_ (by assumption) ?_)
         rotate_left
         · (intro W hSW; go_simp; (try with_reducible rfl))
         simp only [Act.put, pu1, pu2, pu3]
         (refine tk 25 122 ?_ rfl rfl (by kernel_rfl) (by rfl) ?_ (by assumption) ?_)
         rotate_left
         · (intro W hSW; have hSW2 := hK.out W hSW; go_simp; (try with_reducible rfl))
         simp only [Act.put, pu1, pu2, pu3]
         refine wpAnyH_ready (rs := [23]) (by kernel_rfl) (by simp) ?_
         refine AllReadyH.cons (i := 23) rfl (fun K hKK => ?_) AllReadyH.nil
         go_simp
         ((refine (rbox64_c _).mono ?_); rintro e y1 ⟨rfl, g1⟩; have hgy1 := Ev.bt (show Below w2.heap.size w2 _ by first | with_reducible assumption | exact Ev.bdn (Ev.br _) _ | exact Ev.bd1 (Ev.br _) | exact Ev.br _) g1)
         dsimp only
         refine hKK.out _ _ hgy1 (fun hHeld => ?_)
         clear hKK K
         (try simp only [Act.put, pu1, pu2, pu3])
         cases q12 : insideB (-4194304) (-4194304) 4194304 4194304 x.ax x.ay
         · have HS : Hid (rightS s = false) := hid (HPx.out (free_out hz q12))
           refine wpAnyH_ready (rs := [26]) (by kernel_rfl) (by simp) ?_
           refine AllReadyH.cons (i := 26) rfl (fun K hKK => ?_) AllReadyH.nil
           go_simp
           ((refine (Sh.rinside_c _ _ _ _ _ _ _).mono ?_); rintro e y2 ⟨rfl, g2⟩; have hgy2 := Ev.bt (show Below w2.heap.size w2 _ by first | with_reducible assumption | exact Ev.bdn (Ev.br _) _ | exact Ev.bd1 (Ev.br _) | exact Ev.br _) g2; rw [q12])
           dsimp only
           refine hKK.out _ _ hgy2 (fun hHeld => ?_)
           clear hKK K
           (try simp only [Act.put, pu1, pu2, pu3])
           (refine tk 27 124 ?_ rfl rfl (by kernel_rfl) (by rfl) ?_ (by assumption) ?_)
           rotate_left
           · (intro W hSW; go_simp; (try with_reducible rfl))
           simp only [Act.put, pu1, pu2, pu3]
           (refine tk 28 125 ?_ rfl rfl (by kernel_rfl) (by rfl) ?_ (by assumption) ?_)
           rotate_left
           · (intro W hSW; go_simp; (try with_reducible rfl))
           simp only [Act.put, pu1, pu2, pu3]
           (refine tk 29 126 ?_ rfl rfl (by kernel_rfl) (by rfl) ?_ (by assumption) ?_)
           rotate_left
           · (intro W hSW; go_simp; (try with_reducible rfl))
           simp only [Act.put, pu1, pu2, pu3]
           refine wpAnyH_done (by kernel_rfl) ?_ _
           refine NoPanic.normal ?_
           go_wp2_with fail
           go_ret
           exact ⟨by rw [HS.out]; rfl, Ev.bt HBx.out (by first | with_reducible assumption | exact Ev.bdn (Ev.br _) _ | exact Ev.bd1 (Ev.br _) | exact Ev.br _)⟩
         · have HR2 := HPy.out (HF.out rfl q12)
           refine wpAnyH_ready (rs := [26]) (by kernel_rfl) (by simp) ?_
           refine AllReadyH.cons (i := 26) rfl (fun K hKK => ?_) AllReadyH.nil
           go_simp
           ((refine (Sh.rinside_c _ _ _ _ _ _ _).mono ?_); rintro e y2 ⟨rfl, g2⟩; have hgy2 := Ev.bt (show Below w2.heap.size w2 _ by first | with_reducible assumption | exact Ev.bdn (Ev.br _) _ | exact Ev.bd1 (Ev.br _) | exact Ev.br _) g2; rw [q12])
           dsimp only
           refine hKK.out _ _ hgy2 (fun hHeld => ?_)
           clear hKK K
           (try simp only [Act.put, pu1, pu2, pu3])
           (refine tk 27 124 ?_ rfl rfl (by kernel_rfl) (by rfl) ?_ (by assumption) ?_)
           rotate_left
           · (intro W hSW; go_simp; (try with_reducible rfl))
           simp only [Act.put, pu1, pu2, pu3]
           (refine tk 28 125 ?_ rfl rfl (by kernel_rfl) (by rfl) ?_ (by assumption) ?_)
           rotate_left
           · (intro W hSW; go_simp; (try with_reducible rfl))
           simp only [Act.put, pu1, pu2, pu3]
           (refine tk 29 126 ?_ rfl rfl (by kernel_rfl) (by rfl) ?_ (by assumption) ?_)
           rotate_left
           · (intro W hSW; go_simp; (try with_reducible rfl))
           simp only [Act.put, pu1, pu2, pu3]
           refine wpAnyH_done (by kernel_rfl) ?_ _
           refine NoPanic.normal ?_
           go_wp2_with fail
           go_roundw
           case rel => first | exact ⟨k + 1, by omega, by go_num, Ev.bt HBy.out (by first | with_reducible assumption | exact Ev.bdn (Ev.br _) _ | exact Ev.bd1 (Ev.br _) | exact Ev.br _), HR2⟩ | ((repeat apply Exists.intro); exact ⟨⟨k + 1, by omega, by go_num, Ev.bt HBy.out (by first | with_reducible assumption | exact Ev.bdn (Ev.br _) _ | exact Ev.bd1 (Ev.br _) | exact Ev.br _), HR2⟩, rfl⟩)
           case measure => simp [intOf]; omega
     · have hk6 : k = 6 := by omega
       subst hk6
       obtain ⟨c0, c1, c2, c3⟩ := at_st HAr.out
       have HNo := hid (nums_no (s := s))
       have HYes : Hid (¬ (s.fr < 0 ∨ 1073741824 < s.fr ∨ s.rd < 0 ∨ 1073741824 < s.rd ∨ s.lf < 1 ∨ 600 < s.lf) → rightS s = true) := hid (fun h => rightS_yes (nums_yes h) HRP.out hr.out)
       clear hr HRP HAr HA1
       have hn : (¬ 0 ≤ s.fr) ∨ (0 ≤ s.fr ∧ ¬ s.fr ≤ 1073741824) ∨ (0 ≤ s.fr ∧ s.fr ≤ 1073741824 ∧ ¬ 0 ≤ s.rd) ∨ (0 ≤ s.fr ∧ s.fr ≤ 1073741824 ∧ 0 ≤ s.rd ∧ ¬ s.rd ≤ 1073741824) ∨ (0 ≤ s.fr ∧ s.fr ≤ 1073741824 ∧ 0 ≤ s.rd ∧ s.rd ≤ 1073741824 ∧ ¬ 1 ≤ s.lf) ∨ (0 ≤ s.fr ∧ s.fr ≤ 1073741824 ∧ 0 ≤ s.rd ∧ s.rd ≤ 1073741824 ∧ 1 ≤ s.lf ∧ ¬ s.lf ≤ 600) ∨ (0 ≤ s.fr ∧ s.fr ≤ 1073741824 ∧ 0 ≤ s.rd ∧ s.rd ≤ 1073741824 ∧ 1 ≤ s.lf ∧ s.lf ≤ 600) := by omega
       rcases hn with n1 | ⟨n1, n2⟩ | ⟨n1, n2, n3⟩ | ⟨n1, n2, n3, n4⟩ | ⟨n1, n2, n3, n4, n5⟩ | ⟨n1, n2, n3, n4, n5, n6⟩ | ⟨n1, n2, n3, n4, n5, n6⟩
       all_goals
        go_wp2_with fail
        go_ret
        exact ⟨by first | (rw [HNo.out (by omega)]; rfl) | (rw [HYes.out (by omega)]; rfl), Ev.bt HB1.out hg⟩

end Go.Proofs.YtigjflacinlafaaGreatDoor.Gm
