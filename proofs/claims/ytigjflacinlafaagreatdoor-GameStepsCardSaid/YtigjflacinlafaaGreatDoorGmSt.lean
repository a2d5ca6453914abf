/- The walk of GameSteps (layer 12, game). -/
import Derived.Test.YtigjflacinlafaaGreatDoorJ13
import Derived.Test.YtigjflacinlafaaGreatDoorGmRun
import Derived.Test.YtigjflacinlafaaGreatDoorGmRr
import Derived.Deep.DeepCutAuto
import Derived.Deep.RegionWith
namespace Go.Proofs.YtigjflacinlafaaGreatDoor.Gm
open Go.RowKit Go.Proofs.YtigjflacinlafaaGreatDoor.Fx Go.Proofs.YtigjflacinlafaaGreatDoor.Tg Go.Proofs.YtigjflacinlafaaGreatDoor.Dc
open Go.Proofs.YtigjflacinlafaaGreatDoor.Ev (Ev Ky addR pageI At ecs Pg Evs flat)
open Go.Proofs.YtigjflacinlafaaGreatDoor.Sh (In32 vec box insideB touchB slI mvP mvV wallI)
set_option linter.unusedVariables false

theorem exec_neqS {o : Oper} {ev : Operand → Value} (w : World) (x y : Operand) (t2 : TypeId) (ho : o.op = .binOp .neq 35 x y t2) (s1 s2 : St) (hx : ev x = .agg (stC s1).toArray) (hy : ev y = .agg (stC s2).toArray) (r : Value) (hr : r = .bool (!decide (s1 = s2))) :
 (execOp ev o).run Tryz.prog w = .ok (.value r) w := by
 subst hr
 have hg := run_eqGuard_agg (P := Tryz.prog) (w := w) .neq 35 x y (stC s1).toArray (stC s2).toArray guardS
 have hb := neqS s1 s2 w
 unfold stV at hb
 unfold execOp
 simp only [ho, hx, hy, Sem.run_bind, Sem.run_pure, Result.andThen_ok, hg, hb]
theorem two_slf (a b : Int) : ∀ j v, ([.int .u8 a, .int .u8 b] : List Value)[j]? = some v → (#[.int .u8 a, .int .u8 b] : Array Value)[0 + j]? = some v := by
 intro j v h
 rw [Nat.zero_add]
 exact (List.getElem?_toArray).trans h
/-- what the law holds: its state, its inputs, the step's answer and its events. -/
structure Lw (w W : World) (s : St) (a b : Int) (N : Nat) (S : St) (v : Value) (l : List Ev) : Prop where
 st : At W w.heap.size (stC s).toArray 35
 inp : At W (w.heap.size + 1) #[.int .u8 a, .int .u8 b] 41
 res : At W N (stC S).toArray 35
 ev : Evs W v l
 old : Below w.heap.size w W
theorem Lw.below {w W W' : World} {s S : St} {a b : Int} {N : Nat} {v : Value} {l : List Ev} (h : Lw w W s a b N S v l) (g : Below W.heap.size W W') : Lw w W' s a b N S v l :=
 ⟨h.st.below g, h.inp.below g, h.res.below g, h.ev.below g, Ev.bt h.old g⟩

set_option maxRecDepth 100000 in
set_option maxHeartbeats 8000000 in
theorem steps_w (s : St) (a b seed : Int) (w : World) (htab : Tab w) (hty : tyS s) (ha : 0 ≤ a ∧ a ≤ 255) (hb : 0 ≤ b ∧ b ≤ 255) :
 Calls Tryz.prog 4 #[.agg (stC s).toArray, .agg #[.int .u8 a, .int .u8 b], .int .u32 seed] w fun e w' => e = .returned (.bool true) ∧ Below w.heap.size w w' := by
 have HA0 := hid ((At.new w (stC s).toArray 35).more (.cells #[.int .u8 a, .int .u8 b] 41))
 have HI0 := hid (At.newAt (w.alloc (.cells (stC s).toArray 35)) #[.int .u8 a, .int .u8 b] 41 (n := w.heap.size + 1) (by simp))
 have HB0 := hid (Ev.bal (Ev.bal (Ev.br w) (.cells (stC s).toArray 35)) (.cells #[.int .u8 a, .int .u8 b] 41))
 have HTb := hid htab
 have HTy := hid hty
 obtain ⟨ha0, ha1⟩ := ha
 obtain ⟨hb0, hb1⟩ := hb
 clear htab hty
 generalize hC : stC s = cs at HA0 HI0 HB0
 go_enter Tryz.func4, Tryz.ntmps4
 go_upto_region 1 with fail
 subst hC
 generalize World.alloc (World.alloc w _) _ = w0 at HA0 HI0 HB0 ⊢
 have HAw := hid (awake_c w0 (HTb.out.below HTb.out.lt HB0.out))
 have HSt := hid (fun W (g : Below w.heap.size w W) => step_all s a b W (HTb.out.below HTb.out.lt g) HTy.out ha0 hb0)
 have HR : Hid (stepR s a b = if rightS s = true ∧ a ≤ 63 ∧ b ≤ 63 then (if s.fr = 1073741824 then (zeroS, [], 5) else ((stepP s a b).1, (stepP s a b).2, 0)) else (zeroS, [], 1)) := hid rfl
 generalize stepR s a b = q at HSt HR
 obtain ⟨S, lk, er⟩ := q
 dsimp only at HSt
 go_upto_region 4 with (first
  | (go_at_call 5; ((with_reducible refine HAw.out.mono ?_); rintro e w1 ⟨rfl, g1⟩; have HA1 := hid (HA0.out.below g1); have HI1 := hid (HI0.out.below g1); have HB1 := hid (Ev.bt HB0.out g1); clear g1))
  | (refine wpList_load_at rfl 35 _ rfl w.heap.size 0 rfl 35 _ (stC s) (0, 0) _ HA1.out Tryz.underlying35 rfl (by kernel_rfl) (stC_slf s) ?_)
  | (refine wpList_load_at rfl 41 _ rfl (w.heap.size + 1) 0 rfl 41 _ [.int .u8 a, .int .u8 b] (0, 0) _ HI1.out Tryz.underlying41 rfl (by kernel_rfl) (two_slf _ _) ?_)
  | (go_at_call 13; ((refine (HSt.out _ HB1.out).mono ?_); rintro e w2 ⟨v, rfl, hv, g2, hln, hpg, hnl, _⟩; have HA2 := hid (HA1.out.below g2); have HI2 := hid (HI1.out.below g2); have HB2 := hid (Ev.bt HB1.out g2); have HV2 := hid hv; have HPg := hid hpg; have HNl := hid hnl; clear hv g2 hln hpg hnl))
  | (refine wpList_store_at rfl 35 _ _ rfl w2.heap.size 0 (stC S) rfl rfl 35 _ (At.new w2 _ _) (by kernel_rfl) (by show 60 ≤ 60; decide) rfl ?_))
 generalize hW : World.setRow _ _ _ = w4
 have HG : Hid (Below w2.heap.size w2 w4) := hid (by rw [← hW]; exact below_row (Ev.bal (Ev.br w2) _) (Nat.le_refl _) _)
 have HN : Hid (At w4 w2.heap.size (stC S).toArray 35) := hid (by rw [← hW]; exact at_row (At.new w2 _ _) _)
 clear hW
 have HC : Hid (Lw w w4 s a b w2.heap.size S v lk) := hid ⟨HA2.out.below HG.out, HI2.out.below HG.out, HN.out, HV2.out.below HG.out, Ev.bt HB2.out HG.out⟩
 clear HA0 HA1 HA2 HI0 HI1 HI2 HB0 HB1 HB2 HG HN HV2 HAw HSt
 generalize w2.heap.size = N at HC ⊢
 have HQ : Hid (∀ W : World, (binOp .neq 35 (.agg (stC (beginS seed)).toArray) (.agg (stC (beginS seed)).toArray)).run Tryz.prog W = .ok (.bool false) W) := hid (fun W => by
  have := neqS (beginS seed) (beginS seed) W
  rw [decide_eq_true rfl] at this
  exact this)
 have HC0 := hid (HC.out.below (Ev.bd1 (Ev.br _)))
 refine wp_region_noPanic ?_
 refine wp_region_held_drew (S := (fun W => At W w.heap.size (stC s).toArray 35)) (by kernel_rfl) HC0.out.st (fun hHeld => ?_)
 generalize World.drew w4 = u0 at HC0 hHeld ⊢
 (refine tk 0 21 (.agg (stC s).toArray) rfl rfl (by kernel_rfl) (by rfl) ?_ (by assumption) ?_)
 · (intro W hSW; exact exec_load_at W 35 _ rfl w.heap.size 0 rfl 35 _ (stC s) (0, 0) _ hSW Tryz.underlying35 rfl (by kernel_rfl) (stC_slf s))
 simp only [Act.put, pu1, pu2, pu3]
 (refine tk 2 23 (.agg (stC s).toArray) rfl rfl (by kernel_rfl) (by rfl) ?_ (by assumption) ?_)
 · (intro W hSW; exact exec_load_at W 35 _ rfl w.heap.size 0 rfl 35 _ (stC s) (0, 0) _ hSW Tryz.underlying35 rfl (by kernel_rfl) (stC_slf s))
 simp only [Act.put, pu1, pu2, pu3]
 refine wpAnyH_ready (rs := [1]) (by kernel_rfl) (by simp) ?_
 refine AllReadyH.cons (i := 1) rfl (fun K hKK => ?_) AllReadyH.nil
 go_simp
 ((with_reducible refine (right_c _ _).mono ?_); rintro e u1 ⟨rfl, g1⟩; have HC1 := hid (HC0.out.below g1); clear g1)
 (try dsimp only)
 refine hKK.out _ _ HC1.out.st (fun hHeld => ?_)
 clear hKK K
 (try simp only [Act.put, pu1, pu2, pu3])
 refine wpAnyH_ready (rs := [3]) (by kernel_rfl) (by simp) ?_
 refine AllReadyH.cons (i := 3) rfl (fun K hKK => ?_) AllReadyH.nil
 go_simp
 ((with_reducible refine (rright_c _ _).mono ?_); rintro e u2 ⟨rfl, g2⟩; have HC2 := hid (HC1.out.below g2); clear g2)
 (try dsimp only)
 refine hKK.out _ _ HC2.out.st (fun hHeld => ?_)
 clear hKK K
 (try simp only [Act.put, pu1, pu2, pu3])
 (refine tk 4 25 (.bool false) rfl rfl (by kernel_rfl) (by rfl) ?_ (by assumption) ?_)
 · (intro W hSW; go_simp; (try simp); (try rfl))
 simp only [Act.put, pu1, pu2, pu3]
 (refine tk 5 26 ?_ rfl rfl (by kernel_rfl) (by rfl) ?_ (by assumption) ?_)
 rotate_left
 · (intro W hSW; go_simp; (try with_reducible rfl))
 simp only [Act.put, pu1, pu2, pu3]
 (refine tk 6 27 ?_ rfl rfl (by kernel_rfl) (by rfl) ?_ (by assumption) ?_)
 rotate_left
 · (intro W hSW; go_simp; (try with_reducible rfl))
 simp only [Act.put, pu1, pu2, pu3]
 (refine tk 8 29 ?_ rfl rfl (by kernel_rfl) (by rfl) ?_ (by assumption) ?_)
 rotate_left
 · (intro W hSW; go_simp; (try with_reducible rfl))
 simp only [Act.put, pu1, pu2, pu3]
 refine wpAnyH_ready (rs := [7]) (by kernel_rfl) (by simp) ?_
 refine AllReadyH.cons (i := 7) rfl (fun K hKK => ?_) AllReadyH.nil
 go_simp
 ((with_reducible refine (start_c _ _).mono ?_); rintro e u3 ⟨rfl, g3⟩; have HC3 := hid (HC2.out.below g3); clear g3)
 (try dsimp only)
 refine hKK.out _ _ HC3.out.st (fun hHeld => ?_)
 clear hKK K
 (try simp only [Act.put, pu1, pu2, pu3])
 refine wpAnyH_ready (rs := [9]) (by kernel_rfl) (by simp) ?_
 refine AllReadyH.cons (i := 9) rfl (fun K hKK => ?_) AllReadyH.nil
 go_simp
 ((with_reducible refine (rstart_c _ _).mono ?_); rintro e u4 ⟨rfl, g4⟩; have HC4 := hid (HC3.out.below g4); clear g4)
 (try dsimp only)
 refine hKK.out _ _ HC4.out.st (fun hHeld => ?_)
 clear hKK K
 (try simp only [Act.put, pu1, pu2, pu3])
 (refine tk 10 31 (.bool false) rfl rfl (by kernel_rfl) (by rfl) ?_ (by assumption) ?_)
 · (intro W hSW; exact exec_neqS W _ _ _ rfl (beginS seed) (beginS seed) rfl rfl _ (by rw [decide_eq_true rfl]; rfl))
 simp only [Act.put, pu1, pu2, pu3]
 (refine tk 11 32 ?_ rfl rfl (by kernel_rfl) (by rfl) ?_ (by assumption) ?_)
 rotate_left
 · (intro W hSW; go_simp; (try with_reducible rfl))
 simp only [Act.put, pu1, pu2, pu3]
 refine wpAnyH_done (by kernel_rfl) ?_ _
 refine NoPanic.normal ?_
 have HD := HC4
 clear HC0 HC1 HC2 HC3 HC HQ
 cases hr : rightS s
 · have e := HR.out
   rw [if_neg (by rw [hr]; simp)] at e
   obtain ⟨rfl, rfl, rfl⟩ : S = zeroS ∧ lk = [] ∧ er = 1 := by cases e; exact ⟨rfl, rfl, rfl⟩
   obtain rfl := HNl.out (by decide)
   clear e HR HPg HNl
   have hq : ∀ W : World, (binOp .eql 35 (.agg (stC zeroS).toArray) (.agg #[.int .i64 0, .int .u32 0, .int .i64 0, .int .i64 0, .int .i32 0, .int .i32 0, .int .i32 0, .int .i32 0, .int .i64 0, .int .i64 0, .int .i64 0, .int .i64 0, .int .i64 0, .int .i64 0, .int .i32 0, .int .i32 0, .int .i32 0, .int .i32 0, .int .i64 0, .int .i64 0, .int .i64 0, .int .i64 0, .int .i64 0, .int .i64 0, .int .i32 0, .int .i32 0, .int .i32 0, .int .i32 0, .int .i64 0, .int .i64 0, .int .i32 0, .int .i32 0, .int .i32 0, .int .i32 0, .int .i64 0, .int .i64 0, .int .i32 0, .int .i32 0, .int .i32 0, .int .i32 0, .int .i64 0, .int .i64 0, .int .i32 0, .int .i32 0, .int .i32 0, .int .i32 0, .int .i64 0, .int .i64 0, .int .i32 0, .int .i32 0, .int .i32 0, .int .i32 0, .int .i64 0, .int .i64 0, .int .i32 0, .int .i32 0, .int .i32 0, .int .i32 0, .int .i64 0, .int .i64 0])).run Tryz.prog W = .ok (.bool true) W := fun W => by
    have := eqS zeroS zeroS W
    rw [decide_eq_true rfl] at this
    exact this
   go_wp2_with (first
    | (refine wpList_load_at rfl 35 _ rfl w.heap.size 0 rfl 35 _ (stC s) (0, 0) _ HD.out.st Tryz.underlying35 rfl (by kernel_rfl) (stC_slf s) ?_)
    | (go_at_call 10; ((with_reducible refine (rright_c _ _).mono ?_); rintro e w6 ⟨rfl, g6⟩; rw [hr]; have HE := hid (HD.out.below g6)))
    | (refine wpList_load_atg (by rfl) 35 _ rfl N 0 rfl 35 _ (stC zeroS) (0, 0) _ HE.out.res Tryz.underlying35 rfl (by kernel_rfl) (stC_self zeroS) ?_))
   go_ret
   exact ⟨rfl, HE.out.old⟩
 by_cases qa : 63 < a
 · have e := HR.out
   rw [if_neg (by omega)] at e
   obtain ⟨rfl, rfl, rfl⟩ : S = zeroS ∧ lk = [] ∧ er = 1 := by cases e; exact ⟨rfl, rfl, rfl⟩
   obtain rfl := HNl.out (by decide)
   clear e HR HPg HNl
   have hq : ∀ W : World, (binOp .eql 35 (.agg (stC zeroS).toArray) (.agg #[.int .i64 0, .int .u32 0, .int .i64 0, .int .i64 0, .int .i32 0, .int .i32 0, .int .i32 0, .int .i32 0, .int .i64 0, .int .i64 0, .int .i64 0, .int .i64 0, .int .i64 0, .int .i64 0, .int .i32 0, .int .i32 0, .int .i32 0, .int .i32 0, .int .i64 0, .int .i64 0, .int .i64 0, .int .i64 0, .int .i64 0, .int .i64 0, .int .i32 0, .int .i32 0, .int .i32 0, .int .i32 0, .int .i64 0, .int .i64 0, .int .i32 0, .int .i32 0, .int .i32 0, .int .i32 0, .int .i64 0, .int .i64 0, .int .i32 0, .int .i32 0, .int .i32 0, .int .i32 0, .int .i64 0, .int .i64 0, .int .i32 0, .int .i32 0, .int .i32 0, .int .i32 0, .int .i64 0, .int .i64 0, .int .i32 0, .int .i32 0, .int .i32 0, .int .i32 0, .int .i64 0, .int .i64 0, .int .i32 0, .int .i32 0, .int .i32 0, .int .i32 0, .int .i64 0, .int .i64 0])).run Tryz.prog W = .ok (.bool true) W := fun W => by
    have := eqS zeroS zeroS W
    rw [decide_eq_true rfl] at this
    exact this
   go_wp2_with (first
    | (refine wpList_load_at rfl 35 _ rfl w.heap.size 0 rfl 35 _ (stC s) (0, 0) _ HD.out.st Tryz.underlying35 rfl (by kernel_rfl) (stC_slf s) ?_)
    | (go_at_call 10; ((with_reducible refine (rright_c _ _).mono ?_); rintro e w6 ⟨rfl, g6⟩; rw [hr]; have HE := hid (HD.out.below g6); obtain ⟨i0, i1⟩ := HE.out.inp.two))
    | (refine wpList_load_atg (by rfl) 35 _ rfl N 0 rfl 35 _ (stC zeroS) (0, 0) _ HE.out.res Tryz.underlying35 rfl (by kernel_rfl) (stC_self zeroS) ?_))
   go_ret
   exact ⟨rfl, HE.out.old⟩
 by_cases qb : 63 < b
 · have e := HR.out
   rw [if_neg (by omega)] at e
   obtain ⟨rfl, rfl, rfl⟩ : S = zeroS ∧ lk = [] ∧ er = 1 := by cases e; exact ⟨rfl, rfl, rfl⟩
   obtain rfl := HNl.out (by decide)
   clear e HR HPg HNl
   have hq : ∀ W : World, (binOp .eql 35 (.agg (stC zeroS).toArray) (.agg #[.int .i64 0, .int .u32 0, .int .i64 0, .int .i64 0, .int .i32 0, .int .i32 0, .int .i32 0, .int .i32 0, .int .i64 0, .int .i64 0, .int .i64 0, .int .i64 0, .int .i64 0, .int .i64 0, .int .i32 0, .int .i32 0, .int .i32 0, .int .i32 0, .int .i64 0, .int .i64 0, .int .i64 0, .int .i64 0, .int .i64 0, .int .i64 0, .int .i32 0, .int .i32 0, .int .i32 0, .int .i32 0, .int .i64 0, .int .i64 0, .int .i32 0, .int .i32 0, .int .i32 0, .int .i32 0, .int .i64 0, .int .i64 0, .int .i32 0, .int .i32 0, .int .i32 0, .int .i32 0, .int .i64 0, .int .i64 0, .int .i32 0, .int .i32 0, .int .i32 0, .int .i32 0, .int .i64 0, .int .i64 0, .int .i32 0, .int .i32 0, .int .i32 0, .int .i32 0, .int .i64 0, .int .i64 0, .int .i32 0, .int .i32 0, .int .i32 0, .int .i32 0, .int .i64 0, .int .i64 0])).run Tryz.prog W = .ok (.bool true) W := fun W => by
    have := eqS zeroS zeroS W
    rw [decide_eq_true rfl] at this
    exact this
   go_wp2_with (first
    | (refine wpList_load_at rfl 35 _ rfl w.heap.size 0 rfl 35 _ (stC s) (0, 0) _ HD.out.st Tryz.underlying35 rfl (by kernel_rfl) (stC_slf s) ?_)
    | (go_at_call 10; ((with_reducible refine (rright_c _ _).mono ?_); rintro e w6 ⟨rfl, g6⟩; rw [hr]; have HE := hid (HD.out.below g6); obtain ⟨i0, i1⟩ := HE.out.inp.two))
    | (refine wpList_load_atg (by rfl) 35 _ rfl N 0 rfl 35 _ (stC zeroS) (0, 0) _ HE.out.res Tryz.underlying35 rfl (by kernel_rfl) (stC_self zeroS) ?_))
   go_ret
   exact ⟨rfl, HE.out.old⟩
 have hqa : a ≤ 63 := by omega
 have hqb : b ≤ 63 := by omega
 by_cases hf : s.fr = 1073741824
 · have e := HR.out
   rw [if_pos ⟨hr, hqa, hqb⟩, if_pos hf] at e
   obtain ⟨rfl, rfl, rfl⟩ : S = zeroS ∧ lk = [] ∧ er = 5 := by cases e; exact ⟨rfl, rfl, rfl⟩
   obtain rfl := HNl.out (by decide)
   have HFr := hid hf
   clear e HR HPg HNl hf
   have hq : ∀ W : World, (binOp .eql 35 (.agg (stC zeroS).toArray) (.agg #[.int .i64 0, .int .u32 0, .int .i64 0, .int .i64 0, .int .i32 0, .int .i32 0, .int .i32 0, .int .i32 0, .int .i64 0, .int .i64 0, .int .i64 0, .int .i64 0, .int .i64 0, .int .i64 0, .int .i32 0, .int .i32 0, .int .i32 0, .int .i32 0, .int .i64 0, .int .i64 0, .int .i64 0, .int .i64 0, .int .i64 0, .int .i64 0, .int .i32 0, .int .i32 0, .int .i32 0, .int .i32 0, .int .i64 0, .int .i64 0, .int .i32 0, .int .i32 0, .int .i32 0, .int .i32 0, .int .i64 0, .int .i64 0, .int .i32 0, .int .i32 0, .int .i32 0, .int .i32 0, .int .i64 0, .int .i64 0, .int .i32 0, .int .i32 0, .int .i32 0, .int .i32 0, .int .i64 0, .int .i64 0, .int .i32 0, .int .i32 0, .int .i32 0, .int .i32 0, .int .i64 0, .int .i64 0, .int .i32 0, .int .i32 0, .int .i32 0, .int .i32 0, .int .i64 0, .int .i64 0])).run Tryz.prog W = .ok (.bool true) W := fun W => by
    have := eqS zeroS zeroS W
    rw [decide_eq_true rfl] at this
    exact this
   go_wp2_with (first
    | (refine wpList_load_at rfl 35 _ rfl w.heap.size 0 rfl 35 _ (stC s) (0, 0) _ HD.out.st Tryz.underlying35 rfl (by kernel_rfl) (stC_slf s) ?_)
    | (go_at_call 10; ((with_reducible refine (rright_c _ _).mono ?_); rintro e w6 ⟨rfl, g6⟩; rw [hr]; have HE := hid (HD.out.below g6); obtain ⟨i0, i1⟩ := HE.out.inp.two; have c0 : w6.cell? ⟨w.heap.size, 0, none⟩ = some (.int .i64 1073741824) := (by rw [← HFr.out]; exact st_at HE.out.st 0)))
    | (refine wpList_load_atg (by rfl) 35 _ rfl N 0 rfl 35 _ (stC zeroS) (0, 0) _ HE.out.res Tryz.underlying35 rfl (by kernel_rfl) (stC_self zeroS) ?_))
   go_ret
   exact ⟨rfl, HE.out.old⟩
 · have e := HR.out
   rw [if_pos ⟨hr, hqa, hqb⟩, if_neg hf] at e
   have hS : S = (stepP s a b).1 := congrArg (fun z => z.1) e
   have hl : lk = (stepP s a b).2 := congrArg (fun z => z.2.1) e
   obtain rfl : er = 0 := congrArg (fun z => z.2.2) e
   have hm := right_ms hr HTy.out
   have hfr := hm.fr
   have HSr := hid (rstep_c s a b · hm ⟨ha0, hqa⟩ ⟨hb0, hqb⟩ (by omega))
   rw [← hS, ← hl] at HSr
   have HPl := hid (HPg.out rfl)
   have HOr := hid (Ev.page_ord HPl.out)
   have hfb : (s.fr == 1073741824) = false := by simp [hf]
   clear e HR HPg HNl hf hS hl hm hfr
   have hq : ∀ W : World, (binOp .eql 35 (.agg (stC S).toArray) (.agg (stC S).toArray)).run Tryz.prog W = .ok (.bool true) W := fun W => by
    have := eqS S S W
    rw [decide_eq_true rfl] at this
    exact this
   go_upto_region 11 with (first
    | (refine wpList_load_at rfl 35 _ rfl w.heap.size 0 rfl 35 _ (stC s) (0, 0) _ HD.out.st Tryz.underlying35 rfl (by kernel_rfl) (stC_slf s) ?_)
    | (go_at_call 10; ((with_reducible refine (rright_c _ _).mono ?_); rintro e w6 ⟨rfl, g6⟩; rw [hr]; have HE := hid (HD.out.below g6); obtain ⟨i0, i1⟩ := HE.out.inp.two; have c0 : w6.cell? ⟨w.heap.size, 0, none⟩ = some (.int .i64 s.fr) := st_at HE.out.st 0))
    | (refine wpList_load_at rfl 35 _ rfl w.heap.size 0 rfl 35 _ (stC s) (0, 0) _ HE.out.st Tryz.underlying35 rfl (by kernel_rfl) (stC_slf s) ?_)
    | (refine wpList_load_at rfl 41 _ rfl (w.heap.size + 1) 0 rfl 41 _ [.int .u8 a, .int .u8 b] (0, 0) _ HE.out.inp Tryz.underlying41 rfl (by kernel_rfl) (two_slf _ _) ?_)
    | (go_at_call 9; ((refine (HSr.out _).mono ?_); rintro e w7 ⟨v', rfl, hv, g7, _⟩; have HF := hid (HE.out.below g7); have HV7 := hid hv; clear hv g7))
    | (refine wpList_store_at rfl 35 _ _ rfl w7.heap.size 0 (stC S) rfl rfl 35 _ (At.new w7 _ _) (by kernel_rfl) (by show 60 ≤ 60; decide) rfl ?_))
   generalize hW : World.setRow _ _ _ = w8
   have HG : Hid (Below w7.heap.size w7 w8) := hid (by rw [← hW]; exact below_row (Ev.bal (Ev.br w7) _) (Nat.le_refl _) _)
   have HM : Hid (At w8 w7.heap.size (stC S).toArray 35) := hid (by rw [← hW]; exact at_row (At.new w7 _ _) _)
   have HH := hid (HF.out.below HG.out)
   have HV8 := hid (HV7.out.below HG.out)
   clear hW HG HF HV7 HE HD i0 i1 c0
   generalize w7.heap.size = M at HM ⊢
   go_wp2_with (first
    | (refine wpList_load_atg (by rfl) 35 _ rfl N 0 rfl 35 _ (stC S) (0, 0) _ HH.out.res Tryz.underlying35 rfl (by kernel_rfl) (stC_self S) ?_)
    | (refine wpList_load_atg (by rfl) 35 _ rfl M 0 rfl 35 _ (stC S) (0, 0) _ HM.out Tryz.underlying35 rfl (by kernel_rfl) (stC_self S) ?_)
    | (go_at_call 11; ((refine (Ev.rsame_c v v' lk lk _ HH.out.ev HV8.out).mono ?_); rintro e w9 ⟨rfl, g9⟩; rw [decide_eq_true rfl]; have HJ := hid (HH.out.below g9.below); clear g9))
    | (go_at_call 14; ((refine (Ev.ordered_c v lk _ HJ.out.ev).mono ?_); rintro e w10 ⟨rfl, g10⟩; rw [HOr.out]; have HK := hid (HJ.out.below g10); clear g10)))
   go_ret
   exact ⟨rfl, HK.out.old⟩

end Go.Proofs.YtigjflacinlafaaGreatDoor.Gm
