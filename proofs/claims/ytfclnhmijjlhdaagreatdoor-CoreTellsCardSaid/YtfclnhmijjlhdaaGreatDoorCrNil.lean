/- Calls of a core that is not there; the law CoreNil (layer 15, core). -/
import Derived.Test.YtfclnhmijjlhdaaGreatDoorCrAwake
import Derived.Test.YtfclnhmijjlhdaaGreatDoorGmEq
namespace Go.Proofs.YtfclnhmijjlhdaaGreatDoor.Cr
open Go.RowKit Go.Proofs.YtfclnhmijjlhdaaGreatDoor.Rg
open Go.Proofs.YtfclnhmijjlhdaaGreatDoor.Gm (St stC zeroS Tab)
open Go.Proofs.YtfclnhmijjlhdaaGreatDoor.Ev (Ev At bt br bal bd1 bdn)
open Go.Proofs.YtfclnhmijjlhdaaGreatDoor.Sw (fold_ld1 fold_sd1 fold_al1 alloc_st LD SD AL ld_row sd_row)
set_option linter.unusedVariables false
set_option maxRecDepth 100000

theorem wpList_val_w {P : Program} {ops : Array Oper} {rest : List Oper} {o : Oper} {a : Act} {w : World} {Q : Exit → Act → World → Prop} {v : Value} (hwd : Region.wanted o (yielded ops a.tmps) = true) (hy : (execOp a.eval o).run P w = .ok (.value v) w)
 (h : wpList P ops Q rest (a.put o.dst v) w) : wpList P ops Q (o :: rest) a w :=
 wpList_step fun K hK => by
  rw [if_pos hwd]
  unfold Oper.wp
  rw [hy]
  exact hK _ _ h

theorem offer_nil (x : Int) (w : World) : Calls Tryz.prog 14 #[.pointer none, .int .u8 x] w fun e w' => e = .returned (.tuple #[.int .i64 0, .int .i64 2]) ∧ w' = w := by
 go_enter Tryz.func14, Tryz.ntmps14
 go_wp2_with fail
 go_ret2
 exact ⟨rfl, rfl⟩

theorem hear_nil (f x : Int) (w : World) : Calls Tryz.prog 15 #[.pointer none, .int .i64 f, .int .u8 x] w fun e w' => e = .returned (.int .i64 2) ∧ w' = w := by
 go_enter Tryz.func15, Tryz.ntmps15
 go_wp2_with fail
 go_ret
 exact ⟨rfl, rfl⟩

theorem repair_nil  (w : World) : Calls Tryz.prog 16 #[.pointer none] w fun e w' => e = .returned (.tuple #[.slice none 0 0, .int .i64 2]) ∧ Below w.heap.size w w' := by
 go_enter Tryz.func16, Tryz.ntmps16
 go_wp2_with fail
 go_ret2
 exact ⟨rfl, bal (br w) _⟩

theorem current_nil  (w : World) : Calls Tryz.prog 13 #[.pointer none] w fun e w' => e = .returned (.int .i64 0) ∧ w' = w := by
 go_enter Tryz.func13, Tryz.ntmps13
 go_wp2_with fail
 go_ret
 exact ⟨rfl, rfl⟩

theorem settled_nil  (w : World) : Calls Tryz.prog 20 #[.pointer none] w fun e w' => e = .returned (.int .i64 (-1)) ∧ w' = w := by
 go_enter Tryz.func20, Tryz.ntmps20
 go_wp2_with fail
 go_ret
 exact ⟨rfl, rfl⟩

theorem free_nil (f : Int) (w : World) : Calls Tryz.prog 18 #[.pointer none, .int .i64 f] w fun e w' => e = .returned (.int .i64 0) ∧ w' = w := by
 go_enter Tryz.func18, Tryz.ntmps18
 go_wp2_with fail
 go_ret
 exact ⟨rfl, rfl⟩

theorem kept_nil  (w : World) : Calls Tryz.prog 25 #[.pointer none] w fun e w' => e = .returned (.int .i64 0) ∧ w' = w := by
 go_enter Tryz.func25, Tryz.ntmps25
 go_wp2_with fail
 go_ret
 exact ⟨rfl, rfl⟩

theorem mine_nil (f : Int) (w : World) : Calls Tryz.prog 27 #[.pointer none, .int .i64 f] w fun e w' => e = .returned (.slice none 0 0) ∧ w' = w := by
 go_enter Tryz.func27, Tryz.ntmps27
 go_wp2_with fail
 go_ret
 exact ⟨rfl, rfl⟩

theorem theirs_nil  (w : World) : Calls Tryz.prog 28 #[.pointer none] w fun e w' => e = .returned (.int .i64 0) ∧ w' = w := by
 go_enter Tryz.func28, Tryz.ntmps28
 go_wp2_with fail
 go_ret
 exact ⟨rfl, rfl⟩

theorem ours_nil  (w : World) : Calls Tryz.prog 29 #[.pointer none] w fun e w' => e = .returned (.int .i64 0) ∧ w' = w := by
 go_enter Tryz.func29, Tryz.ntmps29
 go_wp2_with fail
 go_ret
 exact ⟨rfl, rfl⟩

theorem common_nil (w : World) : Calls Tryz.prog 24 #[.pointer none] w fun e w' => e = .returned (.int .i64 0) ∧ w' = w := by
 have HO := hid (fun X => ours_nil X)
 have HT := hid (fun X => theirs_nil X)
 go_enter Tryz.func24, Tryz.ntmps24
 go_wp2_with (first
  | (go_at_call 29; ((with_reducible refine (HO.out _).mono ?_); rintro e w1 ⟨rfl, rfl⟩))
  | (go_at_call 28; ((with_reducible refine (HT.out _).mono ?_); rintro e w2 ⟨rfl, rfl⟩)))
 go_ret
 exact ⟨rfl, rfl⟩
theorem step_nil (w : World) : Calls Tryz.prog 17 #[.pointer none] w fun e w' => e = .returned (.tuple #[.agg #[.int .i64 0, .slice none 0 0], .int .i64 2]) ∧ Below w.heap.size w w' := by
 have HB := hid (bal (br w) (.cells #[.int .i64 0, .slice none 0 0] 51))
 have HP := hid (page_new w)
 go_enter Tryz.func17, Tryz.ntmps17
 go_upto_region 1 with fail
 generalize hw : World.alloc _ _ = w0
 rw [hw] at HB HP
 obtain ⟨p0, p1⟩ := HP.out.two
 have f0 := HP.out.frozen 0
 have f1 := HP.out.frozen 1
 clear hw
 go_wp2_with fail
 refine bodyPost_ret (Sw.results_st rfl _ _ w.heap.size 51 #[.int .i64 0, .slice none 0 0] (0, 0) _ rfl (page_set HP.out _ _) Tryz.underlying51 rfl (by kernel_rfl)) rfl ?_
 exact ⟨rfl, below_cell (below_cell HB.out (Nat.le_refl _) _ _) (Nat.le_refl _) _ _⟩
section
attribute [local go_sem ↓] fold_ld1 fold_sd1 fold_al1
attribute [local go_sem] alloc_st
theorem fold_b0 (ps : Array (Nat × Value)) : Instr.build 65 ps = Sw.BD 65 ps := rfl
theorem b0_state (w : World) : (Sw.BD 65 #[]).run Tryz.prog w = .ok (.agg (stC zeroS).toArray) w := by kernel_rfl
attribute [local go_sem ↓] fold_b0
attribute [local go_sem] b0_state
theorem state_nil (f : Int) (w : World) : Calls Tryz.prog 23 #[.pointer none, .int .i64 f] w fun e w' => e = .returned (.tuple #[.agg (stC zeroS).toArray, .bool false]) ∧ Below w.heap.size w w' := by
 have HN := hid (At.new w (stC zeroS).toArray 65)
 have HB := hid (bal (br w) (.cells (stC zeroS).toArray 65))
 go_enter Tryz.func23, Tryz.ntmps23
 go_upto_region 1 with fail
 generalize hw : World.alloc _ _ = w0
 rw [hw] at HN HB
 have hsd : (SD 65 (.pointer (some ⟨w.heap.size, 0, none⟩)) (.agg (stC zeroS).toArray)).run Tryz.prog w0 = .ok () (w0.setRow w.heap.size (stC zeroS).toArray) := sd_row HN.out rfl rfl (Gm.stC_one _)
 clear hw
 go_wp2_with fail
 refine bodyPost_ret (Sw.results_st rfl _ _ w.heap.size 65 (stC zeroS).toArray (0, 0) _ rfl (Gm.at_row HN.out _) Tryz.underlying65 rfl (by kernel_rfl)) rfl ?_
 exact ⟨rfl, Gm.below_row HB.out (Nat.le_refl _) _⟩
attribute [local go_sem] sd_new
theorem exec_eqS {o : Oper} {ev : Operand → Value} (w : World) (x y : Operand) (t2 : TypeId) (ho : o.op = .binOp .eql 65 x y t2) (s1 s2 : St) (hx : ev x = .agg (stC s1).toArray) (hy : ev y = .agg (stC s2).toArray) (r : Value) (hr : r = .bool (decide (s1 = s2))) :
 (execOp ev o).run Tryz.prog w = .ok (.value r) w := by
 subst hr
 have hg := run_eqGuard_agg (P := Tryz.prog) (w := w) .eql 65 x y (stC s1).toArray (stC s2).toArray Gm.guardS
 have hb := Gm.eqS s1 s2 w
 unfold Gm.stV at hb
 unfold execOp
 simp only [ho, hx, hy, Sem.run_bind, Sem.run_pure, Result.andThen_ok, hg, hb]
theorem sum_nil (f : Int) (w : World) : Calls Tryz.prog 26 #[.pointer none, .int .i64 f] w fun e w' => e = .returned (.tuple #[.int .u32 0, .bool false]) ∧ Below w.heap.size w w' := by
 go_enter Tryz.func26, Tryz.ntmps26
 go_upto_region 2 with (go_at_call 23; ((with_reducible refine (state_nil _ _).mono ?_); rintro e w1 ⟨rfl, h1⟩))
 generalize hw : World.setRow _ _ _ = w2
 obtain ⟨h2, -⟩ := new_st w1 zeroS w2 hw
 clear hw
 go_wp2_with fail
 go_ret2
 exact ⟨rfl, bt h1 h2⟩

set_option maxHeartbeats 4000000 in
theorem nil_w (f x : Int) (w : World) (htab : Tab w) :
 Calls Tryz.prog 6 #[.int .i64 f, .int .u8 x] w fun e w' => e = .returned (.bool true) ∧ Below w.heap.size w w' := by
 go_enter Tryz.func6, Tryz.ntmps6
 go_upto_region 7 with (first
  | (go_at_call 7; ((with_reducible refine (awake_c _ htab).mono ?_); rintro e w1 ⟨rfl, h1⟩))
  | (go_at_call 14; ((with_reducible refine (offer_nil _ _).mono ?_); rintro e w2 ⟨rfl, rfl⟩))
  | (go_at_call 16; ((with_reducible refine (repair_nil _).mono ?_); rintro e w3 ⟨rfl, h3⟩))
  | (go_at_call 17; ((with_reducible refine (step_nil _).mono ?_); rintro e w4 ⟨rfl, h4⟩)))
 have HB := hid (bt (bt h1 h3) h4)
 clear h1 h3 h4
 have HN := hid (new_page w4 (.int .i64 0) (.slice none 0 0))
 generalize hw : World.alloc _ _ = w5
 rw [hw] at HN
 clear hw
 have HP5 := hid HN.out.2
 have HB5 := hid (bt HB.out HN.out.1)
 clear HN HB
 generalize w4.heap.size = BP at *
 go_upto_region 8 with (go_at_call 23; ((with_reducible refine (state_nil _ _).mono ?_); rintro e w6 ⟨rfl, h6⟩))
 generalize hw : World.setRow _ _ _ = w7
 obtain ⟨h7, hs7⟩ := new_st w6 zeroS w7 hw
 have HP7 := hid ((HP5.out.below h6).below h7)
 have HB7 := hid (bt (bt HB5.out h6) h7)
 have HS7 := hid hs7
 clear hw h7 hs7 h6 HP5 HB5
 generalize w6.heap.size = BS at *
 go_wp2_with (first
  | (go_at_call 26; ((with_reducible refine (sum_nil _ _).mono ?_); rintro e w8 ⟨rfl, h8⟩; have HS8 := hid (HS7.out.below h8); have HB8 := hid (bt HB7.out h8); obtain ⟨q0, q1⟩ := (HP7.out.below h8).two; have hld8 : (LD 65 (.pointer (some ⟨BS, 0, none⟩))).run Tryz.prog w8 = .ok (.agg (stC zeroS).toArray) w8 := ld_row HS8.out rfl; clear h8))
  | (go_at_call 15; ((with_reducible refine (hear_nil _ _ _).mono ?_); rintro e w2 ⟨rfl, rfl⟩))
  | (go_at_call 13; ((with_reducible refine (current_nil _).mono ?_); rintro e w2 ⟨rfl, rfl⟩))
  | (go_at_call 24; ((with_reducible refine (common_nil _).mono ?_); rintro e w2 ⟨rfl, rfl⟩))
  | (go_at_call 20; ((with_reducible refine (settled_nil _).mono ?_); rintro e w2 ⟨rfl, rfl⟩))
  | (go_at_call 18; ((with_reducible refine (free_nil _ _).mono ?_); rintro e w2 ⟨rfl, rfl⟩))
  | (go_at_call 25; ((with_reducible refine (kept_nil _).mono ?_); rintro e w2 ⟨rfl, rfl⟩))
  | (go_at_call 27; ((with_reducible refine (mine_nil _ _).mono ?_); rintro e w2 ⟨rfl, rfl⟩))
  | (go_at_call 28; ((with_reducible refine (theirs_nil _).mono ?_); rintro e w2 ⟨rfl, rfl⟩))
  | (go_at_call 29; ((with_reducible refine (ours_nil _).mono ?_); rintro e w2 ⟨rfl, rfl⟩))
  | (refine wpList_val_w (by rfl) (exec_eqS _ _ _ _ rfl zeroS zeroS rfl rfl (.bool true) (by simp)) ?_))
 go_ret
 exact ⟨rfl, HB8.out⟩
end
end Go.Proofs.YtfclnhmijjlhdaaGreatDoor.Cr
