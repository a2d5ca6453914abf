/- The law CoreTells (layer 15, core): what is settled is true. -/
import Derived.Test.YtfclnhmijjlhdaaGreatDoorCrNil
import Derived.Test.YtfclnhmijjlhdaaGreatDoorJ27
namespace Go.Proofs.YtfclnhmijjlhdaaGreatDoor.Cr
open Go.RowKit
open Go.Proofs.YtfclnhmijjlhdaaGreatDoor.Rg
open Go.Proofs.YtfclnhmijjlhdaaGreatDoor.Gm (St stC zeroS stepP Tab beginS Ms)
open Go.Proofs.YtfclnhmijjlhdaaGreatDoor.Ev (Ev Evs At bt br bal bd1 bdn)
open Go.Proofs.YtfclnhmijjlhdaaGreatDoor.Sw (fold_ld1 fold_sd1 fold_al1 alloc_st LD SD AL ld_row sd_row)
open Go.Proofs.YtfclnhmijjlhdaaGreatDoor.Co (Co now setN offerE offerM hearE hearM repairM stepE stepM freeTo freeM runS knownI)
set_option linter.unusedVariables false
set_option maxRecDepth 100000

attribute [local go_sem ↓] fold_ap fold_ld1 fold_sd1 fold_al1
attribute [local go_sem] alloc_st sd_new
theorem tells_no (sd d wi me : Int) (ad : Option Addr) (len cap : Nat) (w : World) (htab : Tab w) (hc : cfgB d wi me = false) :
 Calls Tryz.prog 4 #[.agg #[.int .u32 sd, .int .i64 d, .int .i64 wi, .int .i64 me], .slice ad len cap] w fun e w' => e = .returned (.bool true) ∧ Below w.heap.size w w' := by
 have HB := hid (bal (br w) (.cells #[.int .u32 sd, .int .i64 d, .int .i64 wi, .int .i64 me] 24))
 have HA := hid (awake_c _ (htab.below htab.lt HB.out))
 have HC := hid hc
 have HN := hid (At.new w #[.int .u32 sd, .int .i64 d, .int .i64 wi, .int .i64 me] 24)
 clear hc htab
 go_enter Tryz.func4, Tryz.ntmps4
 go_wp2_with (first
  | (go_at_call 7; ((with_reducible refine HA.out.mono ?_); rintro e w1 ⟨rfl, h1⟩; obtain ⟨c0, c1, c2, c3⟩ := (HN.out.below h1).four))
  | (go_at_call 8; ((with_reducible refine (new_no _ _ _ _ _ HC.out).mono ?_); rintro e w2 ⟨rfl, h2⟩)))
 go_ret
 exact ⟨rfl, bt (bt HB.out h1) h2⟩

set_option maxHeartbeats 8000000 in
theorem tells_yes (sd : Int) (d wi me : Nat) (ad : Option Addr) (len cap : Nat) (w : World) (htab : Tab w) (hsd : 0 ≤ sd ∧ sd < 4294967296) (ha : Acts w ad len) (hc : cfgB d wi me = true) :
 Calls Tryz.prog 4 #[.agg #[.int .u32 sd, .int .i64 d, .int .i64 wi, .int .i64 me], .slice ad len cap] w fun e w' => e = .returned (.bool true) ∧ Below w.heap.size w w' := by
 have hcb : d ≤ 8 ∧ wi ≤ 16 ∧ me < 2 := by unfold cfgB at hc; simp at hc; omega
 have HB := hid (bal (br w) (.cells #[.int .u32 sd, .int .i64 d, .int .i64 wi, .int .i64 me] 24))
 have HN := hid (At.new w #[.int .u32 sd, .int .i64 d, .int .i64 wi, .int .i64 me] 24)
 have HA := hid (awake_c _ (htab.below htab.lt HB.out))
 have HC := hid hc
 have HT := hid htab
 have HAc := hid (tacts_at ha)
 have hmk := run_make_row' (P := Tryz.prog) 41 5 (.int .u8 0) 1 Tryz.underlying41 (by kernel_rfl) rfl .i64 .i64 d (by omega) (by omega)
 clear hc htab ha
 go_enter Tryz.func4, Tryz.ntmps4
 go_upto_region 6 with (first
  | (go_at_call 7; ((with_reducible refine HA.out.mono ?_); rintro e w1 ⟨rfl, h1⟩; have HN1 := hid (HN.out.below h1); have HB1 := hid (bt HB.out h1); obtain ⟨c0, c1, c2, c3⟩ := HN1.out.four))
  | (go_at_call 8; ((with_reducible refine (new_c sd d wi me _ HC.out).mono ?_); rintro e w2 ⟨b, rfl, ⟨bf, FF, bs, ao, cap', hcp⟩, h2⟩)))
 have hT1 : Tab w1 := HT.out.below HT.out.lt HB1.out
 have HT1 := hid hT1
 have hlx : Lx w1 w2 b ⟨d, wi, me, fun _ => Dl d, [beginS sd], [], 0⟩ (fun _ => False) := lx_new ⟨⟨bf, FF, bs, ao, cap', hcp⟩, h2⟩
 have HLX := hid hlx
 have HO := hid (ho_new hsd hcb.1 hcb.2.1 hcb.2.2)
 have HCf := hid (HN1.out.below h2)
 have H2 := hid h2
 clear hcp hlx c0 c1 c2 c3 HA HN HC h1 hT1 h2
 go_upto_region 7 with fail
 obtain ⟨W0, hW0⟩ : ∃ W0, w2.alloc (.cells #[] 49) = W0 := ⟨_, rfl⟩
 have hcf : At W0 w.heap.size #[.int .u32 sd, .int .i64 d, .int .i64 wi, .int .i64 me] 24 := by rw [← hW0]; exact HCf.out.more _
 have HW0 := hid hW0
 rw [hW0]
 clear hW0
 have HSz := hid (show W0.heap.size = w2.heap.size + 1 by rw [← HW0.out, World.size_alloc])
 have HTo := hid (show At W0 w2.heap.size #[] 49 by rw [← HW0.out]; exact At.new _ _ _)
 have HB0 := hid (show Below w2.heap.size w2 W0 by rw [← HW0.out]; exact bal (br w2) _)
 have HCF := hid hcf
 clear hcf HW0
 go_cut [8] (fun s8 wx => ∃ B v0 v1 lab, s8 = .pointer (some ⟨B, 0, none⟩) ∧ Tq w1 wx b ⟨d, wi, me, fun _ => Dl d, [beginS sd], [], 0⟩ (beginS sd) 0 w.heap.size #[.int .u32 sd, .int .i64 d, .int .i64 wi, .int .i64 me] B v0 v1 (.slice (some ⟨w2.heap.size, 0, none⟩) 0 0) [] lab)
 case first => as_aux_lemma =>
  have q0 := HCF.out.four.2.1
  have qa := (HCF.out.more (.cells #[.slice none 0 0, .slice none 0 0] 42)).four.2.1
  have qm := (HCF.out.more (.cells (madeCells #[.int .u8 0] d) 5)).four.2.1
  have qam := ((HCF.out.more (.cells #[.slice none 0 0, .slice none 0 0] 42)).more (.cells (madeCells #[.int .u8 0] d) 5)).four.2.1
  have qma := ((HCF.out.more (.cells (madeCells #[.int .u8 0] d) 5)).more (.cells #[.slice none 0 0, .slice none 0 0] 42)).four.2.1
  go_region
  all_goals
   go_wp2_with fail
   go_meet
   case rel => exact tq_new HLX.out HO.out (by omega) HSz.out HTo.out HB0.out HN1.out (bd1 (bal (bal (bal (br W0) _) _) _)) (by first | (refine ((At.newAt _ _ _ ?_).more _).more _; exact (rfl : (_ : Nat) = _); done) | (refine (At.newAt _ _ _ ?_).more _; simp only [World.size_alloc]; done) | (refine At.newAt _ _ _ ?_; simp only [World.size_alloc]; done)) (by first | (refine ((At.newAt _ _ _ ?_).more _).more _; exact (rfl : (_ : Nat) = _); done) | (refine (At.newAt _ _ _ ?_).more _; simp only [World.size_alloc]; done) | (refine At.newAt _ _ _ ?_; simp only [World.size_alloc]; done)) (by first | (refine ((At.newAt _ _ _ ?_).more _).more _; exact (rfl : (_ : Nat) = _); done) | (refine (At.newAt _ _ _ ?_).more _; simp only [World.size_alloc]; done) | (refine At.newAt _ _ _ ?_; simp only [World.size_alloc]; done)) (by omega) (by omega) (by omega) (by omega) (by omega) (by omega)
 case rest => as_aux_lemma =>
  obtain ⟨B, v0, v1, lab, rfl, hq⟩ := hcut
  have HQ := hid hq
  clear HLX HO hmk H2 HCf HTo HB0 HCF HSz hq
  go_upto_region 9 with fail
  go_loopg [7, 9] 200 (fun gk s7 s9 wr => ∃ (i : Nat) (c : C) (v0 v1 : Value) (TL : List Value) (lab : Nat → Nat), gk + i = 200 ∧ s9 = .int .i64 i ∧ Tq w1 wr b c (beginS sd) i w.heap.size #[.int .u32 sd, .int .i64 d, .int .i64 wi, .int .i64 me] B v0 v1 s7 TL lab ∧ c.me = me)
  case atStart => exact ⟨0, _, v0, v1, [], lab, rfl, rfl, HQ.out, rfl⟩
  case round => as_aux_lemma =>
   obtain ⟨i, c, v0, v1, TL, lab, hgk, rfl, hI, hme⟩ := hrel
   clear HQ
   have HI := hid hI
   have hBw := bt HB1.out hI.lx.old
   have HBw := hid hBw
   have HMe := hid hme
   by_cases hst : i < len ∧ i < 200
   · obtain ⟨hlen, h200⟩ := hst
     · have hli : (i : Int) < (len : Int) := by omega
       have h2i : (i : Int) < 200 := by omega
       obtain ⟨ca, off, kd, f, x, rfl, hx, a0, a1, a2⟩ := HAc.out wr hBw i hlen
       clear hI hBw hme
       have HXn := hid (At.new wr #[.int .i64 kd, .int .i64 f, .int .u8 x] 36)
       have HXb := hid (bal (br wr) (.cells #[.int .i64 kd, .int .i64 f, .int .u8 x] 36))
       have HI3 := hid (HI.out.act (.cells #[.int .i64 kd, .int .i64 f, .int .u8 x] 36))
       have HX6 := hid (show labP lab (some wr.heap.size) 6 wr.heap.size = 6 by unfold labP; rw [if_pos rfl])
       go_upto_region 12 with fail
       generalize hw : World.alloc _ _ = w3
       rw [hw] at HXn HXb HI3
       clear hw a0 a1 a2 HI HXb HBw
       generalize labP lab (some wr.heap.size) 6 = lab at *
       generalize wr.heap.size = X at *
       obtain ⟨b0, b1, b2⟩ := HXn.out.three
       by_cases k1 : kd = 1
       · as_aux_lemma =>
         subst k1
         have HCl := hid (HI3.out.lx.offer HI3.out.ho (by omega) x hx.1)
         go_upto_region 15 with (go_at_call 14; ((with_reducible refine HCl.out.mono ?_); rintro e w5 ⟨⟨y, rfl⟩, hL5, hK5⟩))
         have HX5 := hid (show At w5 X #[.int .i64 1, .int .i64 f, .int .u8 x] 36 from (hK5.block X HXn.out.lt (fun e => e (by show lab X ≠ 0; rw [HX6.out]; decide))).trans HXn.out)
         have HT5 := hid (HI3.out.tm.kx hK5)
         have HC5 := hid (HI3.out.cf.below hL5.old)
         have HGe := hid HI3.out.ge
         have HCf3 := hid HI3.out.cf
         by_cases hz : offerE c x = 0
         · go_upto_region 16 with fail
           have HL := hid (fun t => offer_L (c := c) (x := x) hz t)
           have HTT := hid (offer_T c x)
           have HHo := hid ((HI3.out.ho.offer hx.1).1.more (Nat.le_succ i))
           have hlL : (c.F 0).L.length ≤ 1073741825 ∧ (c.F 1).L.length ≤ 1073741825 := by
            obtain ⟨U, hI⟩ := HI3.out.ho.inv
            exact ⟨(hI.ok 0 (by omega)).len, (hI.ok 1 (by omega)).len⟩
           have hge5 := hL5.old.size
           obtain ⟨c5, hc5⟩ : ∃ c5, offerM c x = c5 := ⟨_, rfl⟩
           rw [hc5] at hL5 HL HTT HHo
           have HL5 := hid hL5
           have hzz : ∀ g, w5.heap.size ≤ g → lab g = 0 := fun g hg => by
            rcases Nat.eq_zero_or_pos (lab g) with e | e
            · exact e
            · have := hL5.lt g (by show lab g ≠ 0; omega); omega
           have HZ := hid hzz
           have hme01 : me = 0 ∨ me = 1 := by omega
           clear hL5 hK5 hc5 HCl HXn HI3 b0 b1 b2 hz hzz
           rcases hme01 with rfl | rfl
           · as_aux_lemma =>
             obtain ⟨v', w6, hrun, hown, hgr, hv'⟩ := ap_u8 w5.drew w1.heap.size v0 _ _ (HT5.out.below (bd1 (br w5))).r0 hlL.1 hge5 x 41
             have hput := (HT5.out.below (bd1 (br w5))).put0 (x := x) hge5 hown hgr hv' HZ.out
             obtain ⟨ao6, cap6, rfl⟩ := row_form hown
             have htd := HT5.out.below (bd1 (br w5))
             have hr0 := htd.r0
             obtain ⟨ao5, cap5, rfl⟩ := row_form hr0
             have hbi := htd.bi
             have hcd := HC5.out.below (bd1 (br w5))
             have hxd := HX5.out.below (bd1 (br w5))
             have k6 : Keeps (fun g => lab g = 2) w5.drew w6 := ((Keeps.refl _ w5.drew).alloc _).grown hgr (fun g e _ => htd.l0 g e)
             have hb6 : At w6 B _ _ := (k6.block B hbi.lt (fun e => by rw [htd.lb] at e; cases e)).trans hbi
             have hc6 : At w6 w.heap.size _ _ := (k6.block _ hcd.lt (fun e => by have h1 := HN1.out.lt; have h2 := HGe.out w.heap.size (by show lab _ ≠ 0; rw [e]; decide); omega)).trans hcd
             have b0 : w5.cell? ⟨B, 0, none⟩ = some (.slice ao5 (c.F 0).L.length cap5) := by rw [cell_of_row _ _ _ _ _ _ HT5.out.bi]; rfl
             have bA : (w5.alloc (.cells #[.int .u8 x] 5)).cell? ⟨B, 0, none⟩ = some (.slice ao5 (c.F 0).L.length cap5) := by rw [cell_of_row _ _ _ _ _ _ (HT5.out.bi.more _)]; rfl
             have b6 : w6.cell? ⟨B, 0, none⟩ = some (.slice ao5 (c.F 0).L.length cap5) := by rw [cell_of_row _ _ _ _ _ _ hb6]; rfl
             have f6 : w6.frozen? ⟨B, 0, none⟩ = false := frozen_of_row w6 B 0 _ _ hb6
             have m0 : w5.cell? ⟨w.heap.size, 3, none⟩ = some (.int .i64 0) := by rw [cell_of_row _ _ _ _ _ _ HC5.out]; rfl
             have mA : (w5.alloc (.cells #[.int .u8 x] 5)).cell? ⟨w.heap.size, 3, none⟩ = some (.int .i64 0) := by rw [cell_of_row _ _ _ _ _ _ (HC5.out.more _)]; rfl
             have m6 : w6.cell? ⟨w.heap.size, 3, none⟩ = some (.int .i64 0) := by rw [cell_of_row _ _ _ _ _ _ hc6]; rfl
             have x0 : w5.cell? ⟨X, 2, none⟩ = some (.int .u8 x) := by rw [cell_of_row _ _ _ _ _ _ HX5.out]; rfl
             have hr2 : (AP #[41, 41] 41 #[.slice ao5 (c.F 0).L.length cap5, .slice (some ⟨w5.heap.size, 0, none⟩) 1 1]).run Tryz.prog ((w5.alloc (.cells #[.int .u8 x] 5)).drew) = .ok (.slice ao6 ((c.F 0).L.length + 1) cap6) w6 := hrun
             have HPut := hid hput
             have HHv := hid hv'
             have HRow := hid hr0
             clear hrun hput hown hgr hv' htd hr0 hbi hcd hxd k6 hb6 hc6
             go_region
             all_goals
              go_upto_region 10 with fail
              go_wp2_with fail
              go_roundg (gk - 1)
              case measure => omega
              case rel =>
               obtain ⟨t1, t2⟩ := HPut.out
               obtain ⟨l1, l2⟩ := tq_put (d := 2) HL5.out HGe.out (by decide) HHv.out (fun g hg => HT5.out.l0 g hg) t2 (fun g hg => owns_lt t1.r0 hg)
               refine ⟨i + 1, c5, .slice ao6 ((c.F 0).L.length + 1) cap6, v1, TL, _, by omega, by go_num, ⟨l1, l2, HHo.out, ?_, HCf3.out⟩, HTT.out.2.trans HMe.out⟩
               rw [HTT.out.1, HL.out 0, HL.out 1, HMe.out, if_pos rfl, if_neg (by decide)]
               exact t1
           · as_aux_lemma =>
             obtain ⟨v', w6, hrun, hown, hgr, hv'⟩ := ap_u8 w5.drew w1.heap.size v1 _ _ (HT5.out.below (bd1 (br w5))).r1 hlL.2 hge5 x 41
             have hput := (HT5.out.below (bd1 (br w5))).put1 (x := x) hge5 hown hgr hv' HZ.out
             obtain ⟨ao6, cap6, rfl⟩ := row_form hown
             have htd := HT5.out.below (bd1 (br w5))
             have hr1 := htd.r1
             obtain ⟨ao5, cap5, rfl⟩ := row_form hr1
             have hbi := htd.bi
             have hcd := HC5.out.below (bd1 (br w5))
             have hxd := HX5.out.below (bd1 (br w5))
             have k6 : Keeps (fun g => lab g = 3) w5.drew w6 := ((Keeps.refl _ w5.drew).alloc _).grown hgr (fun g e _ => htd.l1 g e)
             have hb6 : At w6 B _ _ := (k6.block B hbi.lt (fun e => by rw [htd.lb] at e; cases e)).trans hbi
             have hc6 : At w6 w.heap.size _ _ := (k6.block _ hcd.lt (fun e => by have h1 := HN1.out.lt; have h2 := HGe.out w.heap.size (by show lab _ ≠ 0; rw [e]; decide); omega)).trans hcd
             have b0 : w5.cell? ⟨B, 1, none⟩ = some (.slice ao5 (c.F 1).L.length cap5) := by rw [cell_of_row _ _ _ _ _ _ HT5.out.bi]; rfl
             have bA : (w5.alloc (.cells #[.int .u8 x] 5)).cell? ⟨B, 1, none⟩ = some (.slice ao5 (c.F 1).L.length cap5) := by rw [cell_of_row _ _ _ _ _ _ (HT5.out.bi.more _)]; rfl
             have b6 : w6.cell? ⟨B, 1, none⟩ = some (.slice ao5 (c.F 1).L.length cap5) := by rw [cell_of_row _ _ _ _ _ _ hb6]; rfl
             have f6 : w6.frozen? ⟨B, 1, none⟩ = false := frozen_of_row w6 B 1 _ _ hb6
             have m0 : w5.cell? ⟨w.heap.size, 3, none⟩ = some (.int .i64 1) := by rw [cell_of_row _ _ _ _ _ _ HC5.out]; rfl
             have mA : (w5.alloc (.cells #[.int .u8 x] 5)).cell? ⟨w.heap.size, 3, none⟩ = some (.int .i64 1) := by rw [cell_of_row _ _ _ _ _ _ (HC5.out.more _)]; rfl
             have m6 : w6.cell? ⟨w.heap.size, 3, none⟩ = some (.int .i64 1) := by rw [cell_of_row _ _ _ _ _ _ hc6]; rfl
             have x0 : w5.cell? ⟨X, 2, none⟩ = some (.int .u8 x) := by rw [cell_of_row _ _ _ _ _ _ HX5.out]; rfl
             have hr2 : (AP #[41, 41] 41 #[.slice ao5 (c.F 1).L.length cap5, .slice (some ⟨w5.heap.size, 0, none⟩) 1 1]).run Tryz.prog ((w5.alloc (.cells #[.int .u8 x] 5)).drew) = .ok (.slice ao6 ((c.F 1).L.length + 1) cap6) w6 := hrun
             have HPut := hid hput
             have HHv := hid hv'
             have HRow := hid hr1
             clear hrun hput hown hgr hv' htd hr1 hbi hcd hxd k6 hb6 hc6
             go_region
             all_goals
              go_upto_region 10 with fail
              go_wp2_with fail
              go_roundg (gk - 1)
              case measure => omega
              case rel =>
               obtain ⟨t1, t2⟩ := HPut.out
               obtain ⟨l1, l2⟩ := tq_put (d := 3) HL5.out HGe.out (by decide) HHv.out (fun g hg => HT5.out.l1 g hg) t2 (fun g hg => owns_lt t1.r1 hg)
               refine ⟨i + 1, c5, v0, .slice ao6 ((c.F 1).L.length + 1) cap6, TL, _, by omega, by go_num, ⟨l1, l2, HHo.out, ?_, HCf3.out⟩, HTT.out.2.trans HMe.out⟩
               rw [HTT.out.1, HL.out 0, HL.out 1, HMe.out, if_neg (by decide), if_pos rfl]
               exact t1
         · have HHo := hid (HI3.out.ho.more (Nat.le_succ i))
           rw [offer_no hz] at hL5
           have HL5 := hid hL5
           clear hL5 hK5 HCl HXn HI3 b0 b1 b2
           go_upto_region 10 with fail
           go_wp2_with fail
           go_roundg (gk - 1)
           case measure => omega
           case rel => exact ⟨i + 1, c, v0, v1, TL, lab, by omega, by go_num, ⟨HL5.out, HGe.out, HHo.out, HT5.out, HCf3.out⟩, HMe.out⟩
       by_cases k2 : kd = 2
       · as_aux_lemma =>
         subst k2
         have n1 : ((2 : Int) == 1) = false := by decide
         have HCl := hid (HI3.out.lx.hear HI3.out.ho f x hx.1)
         by_cases hz : hearE c f x = 0
         · go_upto_region 19 with (go_at_call 15; ((with_reducible refine HCl.out.mono ?_); rintro e w5 ⟨rfl, hL5, hK5⟩))
           have HX5 := hid (show At w5 X #[.int .i64 2, .int .i64 f, .int .u8 x] 36 from (hK5.block X HXn.out.lt (fun e => e (by show lab X ≠ 0; rw [HX6.out]; decide))).trans HXn.out)
           have HT5 := hid (HI3.out.tm.kx hK5)
           have HC5 := hid (HI3.out.cf.below hL5.old)
           have HGe := hid HI3.out.ge
           have HCf3 := hid HI3.out.cf
           have HL := hid (fun t => hear_L1 (c := c) (f := f) (x := x) hz t)
           have HTT := hid (hear_T c f x)
           have HHo := hid ((HI3.out.ho.hear (f := f) hx.1).1.more (Nat.le_succ i))
           have hlL : (c.F 0).L.length ≤ 1073741825 ∧ (c.F 1).L.length ≤ 1073741825 := by
            obtain ⟨U, hI⟩ := HI3.out.ho.inv
            exact ⟨(hI.ok 0 (by omega)).len, (hI.ok 1 (by omega)).len⟩
           have hge5 := hL5.old.size
           obtain ⟨c5, hc5⟩ : ∃ c5, hearM c f x = c5 := ⟨_, rfl⟩
           rw [hc5] at hL5 HL HTT HHo
           have HL5 := hid hL5
           have hzz : ∀ g, w5.heap.size ≤ g → lab g = 0 := fun g hg => by
            rcases Nat.eq_zero_or_pos (lab g) with e | e
            · exact e
            · have := hL5.lt g (by show lab g ≠ 0; omega); omega
           have HZ := hid hzz
           have hme01 : me = 0 ∨ me = 1 := by omega
           clear hL5 hK5 hc5 HCl HXn HI3 b0 b1 b2 hz hzz
           rcases hme01 with rfl | rfl
           · as_aux_lemma =>
             obtain ⟨v', w6, hrun, hown, hgr, hv'⟩ := ap_u8 w5.drew w1.heap.size v1 _ _ (HT5.out.below (bd1 (br w5))).r1 hlL.2 hge5 x 41
             have hput := (HT5.out.below (bd1 (br w5))).put1 (x := x) hge5 hown hgr hv' HZ.out
             obtain ⟨ao6, cap6, rfl⟩ := row_form hown
             have htd := HT5.out.below (bd1 (br w5))
             have hr1 := htd.r1
             obtain ⟨ao5, cap5, rfl⟩ := row_form hr1
             have hbi := htd.bi
             have hcd := HC5.out.below (bd1 (br w5))
             have hxd := HX5.out.below (bd1 (br w5))
             have k6 : Keeps (fun g => lab g = 3) w5.drew w6 := ((Keeps.refl _ w5.drew).alloc _).grown hgr (fun g e _ => htd.l1 g e)
             have hb6 : At w6 B _ _ := (k6.block B hbi.lt (fun e => by rw [htd.lb] at e; cases e)).trans hbi
             have hc6 : At w6 w.heap.size _ _ := (k6.block _ hcd.lt (fun e => by have h1 := HN1.out.lt; have h2 := HGe.out w.heap.size (by show lab _ ≠ 0; rw [e]; decide); omega)).trans hcd
             have b0 : w5.cell? ⟨B, 1, none⟩ = some (.slice ao5 (c.F 1).L.length cap5) := by rw [cell_of_row _ _ _ _ _ _ HT5.out.bi]; rfl
             have bA : (w5.alloc (.cells #[.int .u8 x] 5)).cell? ⟨B, 1, none⟩ = some (.slice ao5 (c.F 1).L.length cap5) := by rw [cell_of_row _ _ _ _ _ _ (HT5.out.bi.more _)]; rfl
             have b6 : w6.cell? ⟨B, 1, none⟩ = some (.slice ao5 (c.F 1).L.length cap5) := by rw [cell_of_row _ _ _ _ _ _ hb6]; rfl
             have f6 : w6.frozen? ⟨B, 1, none⟩ = false := frozen_of_row w6 B 1 _ _ hb6
             have m0 : w5.cell? ⟨w.heap.size, 3, none⟩ = some (.int .i64 0) := by rw [cell_of_row _ _ _ _ _ _ HC5.out]; rfl
             have mA : (w5.alloc (.cells #[.int .u8 x] 5)).cell? ⟨w.heap.size, 3, none⟩ = some (.int .i64 0) := by rw [cell_of_row _ _ _ _ _ _ (HC5.out.more _)]; rfl
             have m6 : w6.cell? ⟨w.heap.size, 3, none⟩ = some (.int .i64 0) := by rw [cell_of_row _ _ _ _ _ _ hc6]; rfl
             have x0 : w5.cell? ⟨X, 2, none⟩ = some (.int .u8 x) := by rw [cell_of_row _ _ _ _ _ _ HX5.out]; rfl
             have hr2 : (AP #[41, 41] 41 #[.slice ao5 (c.F 1).L.length cap5, .slice (some ⟨w5.heap.size, 0, none⟩) 1 1]).run Tryz.prog ((w5.alloc (.cells #[.int .u8 x] 5)).drew) = .ok (.slice ao6 ((c.F 1).L.length + 1) cap6) w6 := hrun
             have HPut := hid hput
             have HHv := hid hv'
             have HRow := hid hr1
             clear hrun hput hown hgr hv' htd hr1 hbi hcd hxd k6 hb6 hc6
             go_region
             all_goals
              go_upto_region 10 with fail
              go_wp2_with fail
              go_roundg (gk - 1)
              case measure => omega
              case rel =>
               obtain ⟨t1, t2⟩ := HPut.out
               obtain ⟨l1, l2⟩ := tq_put (d := 3) HL5.out HGe.out (by decide) HHv.out (fun g hg => HT5.out.l1 g hg) t2 (fun g hg => owns_lt t1.r1 hg)
               refine ⟨i + 1, c5, v0, .slice ao6 ((c.F 1).L.length + 1) cap6, TL, _, by omega, by go_num, ⟨l1, l2, HHo.out, ?_, HCf3.out⟩, HTT.out.2.trans HMe.out⟩
               rw [HTT.out.1, HL.out 0, HL.out 1, HMe.out, if_neg (by decide), if_pos (by decide)]
               exact t1
           · as_aux_lemma =>
             obtain ⟨v', w6, hrun, hown, hgr, hv'⟩ := ap_u8 w5.drew w1.heap.size v0 _ _ (HT5.out.below (bd1 (br w5))).r0 hlL.1 hge5 x 41
             have hput := (HT5.out.below (bd1 (br w5))).put0 (x := x) hge5 hown hgr hv' HZ.out
             obtain ⟨ao6, cap6, rfl⟩ := row_form hown
             have htd := HT5.out.below (bd1 (br w5))
             have hr0 := htd.r0
             obtain ⟨ao5, cap5, rfl⟩ := row_form hr0
             have hbi := htd.bi
             have hcd := HC5.out.below (bd1 (br w5))
             have hxd := HX5.out.below (bd1 (br w5))
             have k6 : Keeps (fun g => lab g = 2) w5.drew w6 := ((Keeps.refl _ w5.drew).alloc _).grown hgr (fun g e _ => htd.l0 g e)
             have hb6 : At w6 B _ _ := (k6.block B hbi.lt (fun e => by rw [htd.lb] at e; cases e)).trans hbi
             have hc6 : At w6 w.heap.size _ _ := (k6.block _ hcd.lt (fun e => by have h1 := HN1.out.lt; have h2 := HGe.out w.heap.size (by show lab _ ≠ 0; rw [e]; decide); omega)).trans hcd
             have b0 : w5.cell? ⟨B, 0, none⟩ = some (.slice ao5 (c.F 0).L.length cap5) := by rw [cell_of_row _ _ _ _ _ _ HT5.out.bi]; rfl
             have bA : (w5.alloc (.cells #[.int .u8 x] 5)).cell? ⟨B, 0, none⟩ = some (.slice ao5 (c.F 0).L.length cap5) := by rw [cell_of_row _ _ _ _ _ _ (HT5.out.bi.more _)]; rfl
             have b6 : w6.cell? ⟨B, 0, none⟩ = some (.slice ao5 (c.F 0).L.length cap5) := by rw [cell_of_row _ _ _ _ _ _ hb6]; rfl
             have f6 : w6.frozen? ⟨B, 0, none⟩ = false := frozen_of_row w6 B 0 _ _ hb6
             have m0 : w5.cell? ⟨w.heap.size, 3, none⟩ = some (.int .i64 1) := by rw [cell_of_row _ _ _ _ _ _ HC5.out]; rfl
             have mA : (w5.alloc (.cells #[.int .u8 x] 5)).cell? ⟨w.heap.size, 3, none⟩ = some (.int .i64 1) := by rw [cell_of_row _ _ _ _ _ _ (HC5.out.more _)]; rfl
             have m6 : w6.cell? ⟨w.heap.size, 3, none⟩ = some (.int .i64 1) := by rw [cell_of_row _ _ _ _ _ _ hc6]; rfl
             have x0 : w5.cell? ⟨X, 2, none⟩ = some (.int .u8 x) := by rw [cell_of_row _ _ _ _ _ _ HX5.out]; rfl
             have hr2 : (AP #[41, 41] 41 #[.slice ao5 (c.F 0).L.length cap5, .slice (some ⟨w5.heap.size, 0, none⟩) 1 1]).run Tryz.prog ((w5.alloc (.cells #[.int .u8 x] 5)).drew) = .ok (.slice ao6 ((c.F 0).L.length + 1) cap6) w6 := hrun
             have HPut := hid hput
             have HHv := hid hv'
             have HRow := hid hr0
             clear hrun hput hown hgr hv' htd hr0 hbi hcd hxd k6 hb6 hc6
             go_region
             all_goals
              go_upto_region 10 with fail
              go_wp2_with fail
              go_roundg (gk - 1)
              case measure => omega
              case rel =>
               obtain ⟨t1, t2⟩ := HPut.out
               obtain ⟨l1, l2⟩ := tq_put (d := 2) HL5.out HGe.out (by decide) HHv.out (fun g hg => HT5.out.l0 g hg) t2 (fun g hg => owns_lt t1.r0 hg)
               refine ⟨i + 1, c5, .slice ao6 ((c.F 0).L.length + 1) cap6, v1, TL, _, by omega, by go_num, ⟨l1, l2, HHo.out, ?_, HCf3.out⟩, HTT.out.2.trans HMe.out⟩
               rw [HTT.out.1, HL.out 0, HL.out 1, HMe.out, if_pos (by decide), if_neg (by decide)]
               exact t1
         · go_upto_region 10 with (go_at_call 15; ((with_reducible refine HCl.out.mono ?_); rintro e w5 ⟨rfl, hL5, hK5⟩))
           have HX5 := hid (show At w5 X #[.int .i64 2, .int .i64 f, .int .u8 x] 36 from (hK5.block X HXn.out.lt (fun e => e (by show lab X ≠ 0; rw [HX6.out]; decide))).trans HXn.out)
           have HT5 := hid (HI3.out.tm.kx hK5)
           have HC5 := hid (HI3.out.cf.below hL5.old)
           have HGe := hid HI3.out.ge
           have HCf3 := hid HI3.out.cf
           have HHo := hid ((HI3.out.ho.hear (f := f) hx.1).1.more (Nat.le_succ i))
           have HL5 := hid hL5
           have HL := hid (fun t => hear_L0 (c := c) (f := f) (x := x) hz t)
           clear hL5 hK5 HCl HXn HI3 b0 b1 b2
           go_wp2_with fail
           go_roundg (gk - 1)
           case measure => omega
           case rel =>
            refine ⟨i + 1, hearM c f x, v0, v1, TL, lab, by omega, by go_num, ⟨HL5.out, HGe.out, HHo.out, ?_, HCf3.out⟩, HMe.out⟩
            rw [HL.out 0, HL.out 1]
            exact HT5.out
       by_cases k3 : kd = 3
       · as_aux_lemma =>
         subst k3
         have n1 : ((3 : Int) == 1) = false := by decide
         have n2 : ((3 : Int) == 2) = false := by decide
         have HCl := hid (HI3.out.lx.repair HI3.out.ho (by omega) HT1.out)
         go_upto_region 22 with (go_at_call 16; ((with_reducible refine HCl.out.mono ?_); rintro e w5 ⟨P, pv, k, rfl, hrow, hpg, hL5, hK5, hg5⟩))
         obtain ⟨lab', t1, t2, t3, t4, t5⟩ := HI3.out.labs (S := Gp pv P (repairM stepP c).T k) hL5 hK5 hg5
         obtain ⟨r1, r2, r3, r4, r5, r6, r7⟩ := HI3.out.ho.repair (by omega)
         have HHo := hid (r1.more (Nat.le_succ i))
         have HLs := hid (fun t => repair_L c t)
         have HMe5 := hid (r5.trans HMe.out)
         have HGe := hid t2
         have HCf3 := hid HI3.out.cf
         have hlen5 : (repairM stepP c).T.length ≤ k + P.length := by
          have e1 := hpg.lenT
          have e2 := hpg.len
          have e3 := hpg.le
          have e4 := HI3.out.ho.set_le.2.2.2.1
          omega
         have HLen := hid hlen5
         have hPl : P.length ≤ 200 := by
          have e1 := hpg.len
          have e2 := HI3.out.ho.set_le
          omega
         obtain ⟨n3w, hn3⟩ : ∃ n3w, w3.heap.size = n3w := ⟨_, rfl⟩
         rw [hn3] at hrow
         have hrp : Rp w1 w5 b c (repairM stepP c) B v0 v1 (c.F 0).L (c.F 1).L u7 TL c.T lab' n3w P pv k (k + 0) := ⟨t1, t3, hpg.lenT.symm, fun j hj => (hpg.low j hj).symm, hrow, fun g hg => t4 g (.inl hg), hpg, fun j p x hp hx g hg => t4 g (.inr ⟨j, p, x, hp, hx, hg⟩)⟩
         obtain ⟨pa, pc, rfl⟩ := row_form hrow
         have HRp := hid hrp
         obtain ⟨c5, hc5⟩ : ∃ c5, repairM stepP c = c5 := ⟨_, rfl⟩
         rw [hc5] at HRp HLen HMe5 HLs HHo
         clear hc5 hrp hrow hpg hL5 hK5 hg5 t1 t2 t3 t4 t5 r1 r2 r3 r4 r5 r6 r7 hlen5 HCl HXn HI3 HX6 b0 b1 b2 hn3
         go_upto_region 23 with fail
         obtain ⟨gko, rfl⟩ : ∃ gko, gko = gk := ⟨_, rfl⟩
         go_loopg [15] P.length (fun gq s15 wq => ∃ (q : Nat) (TLq : List Value) (Tl : List (List Ev)), gq + q = P.length ∧ s15 = .int .i64 q ∧ Rp w1 wq b c c5 B v0 v1 (c.F 0).L (c.F 1).L u7 TLq Tl lab' n3w P (.slice pa P.length pc) k (k + q))
         case atStart => exact ⟨0, TL, c.T, rfl, rfl, HRp.out⟩
         case round => as_aux_lemma =>
          obtain ⟨q, TLq, Tl, hgq, rfl, hR⟩ := hrel
          clear HRp
          have HR := hid hR
          by_cases hq : q < P.length
          · have hqi : (q : Int) < (P.length : Int) := by omega
            obtain ⟨gp, cp, gt, ct, p, xa, xL, xc, epv, etv, hp, ep2, hm, x0, x1, ⟨u, x2⟩, f2⟩ := hR.page hq rfl
            obtain ⟨x', hset⟩ := hR.set etv HGe.out rfl hp
            rw [ep2] at hset
            cases epv
            subst etv
            have HSet := hid hset
            clear hR hset ep2
            go_upto_region 25 with fail
            go_region
            go_wp2_with fail
            go_roundg (gk - 1)
            case measure => omega
            case rel => exact ⟨q + 1, _, _, by omega, by go_num, HSet.out.below (bd1 (br _))⟩
          · have hqi : ¬ (q : Int) < (P.length : Int) := by omega
            have hall : Tl = c5.T := hR.all (by have := HLen.out; omega)
            have HAll := hid hall
            clear hR hall
            go_upto_region 10 with fail
            go_wp2_with fail
            go_roundg (gko - 1)
            case measure => omega
            case rel =>
             refine ⟨i + 1, c5, v0, v1, TLq, lab', by omega, by go_num, ⟨HR.out.lx, HGe.out, HHo.out, ?_, HCf3.out⟩, HMe5.out⟩
             rw [HLs.out 0, HLs.out 1, ← HAll.out]
             exact HR.out.tm
       by_cases k4 : kd = 4
       · as_aux_lemma =>
         subst k4
         have n1 : ((4 : Int) == 1) = false := by decide
         have n2 : ((4 : Int) == 2) = false := by decide
         have n3 : ((4 : Int) == 3) = false := by decide
         have HCl := hid (HI3.out.lx.step HI3.out.ho (by omega) HT1.out)
         by_cases hz : stepE c = 0
         · go_upto_region 29 with (go_at_call 17; ((with_reducible refine HCl.out.mono ?_); rintro e w5 ⟨y, va, vL, vc, xs, rfl, hE, hOk, hL5, hK5, hg5⟩))
           obtain ⟨lab', t1, t2, t3, t4, t5⟩ := HI3.out.labs (S := fun g => stepE c = 0 ∧ nb (.slice va vL vc) xs g) hL5 hK5 (fun g hg => hg5 g hg.1 hg.2)
           obtain ⟨e4, hev⟩ := hOk hz
           have HHo := hid (HI3.out.ho.step (by omega)).1
           have HLs := hid (fun t => step_L c t)
           have HCf3 := hid HI3.out.cf
           have HGe := hid t2
           have HN := hid (new_page w5 (.int .i64 y) (.slice va vL vc))
           generalize hw : World.alloc _ _ = w6
           rw [hw] at HN
           have hTm := t3.below HN.out.1
           have hLx := t1.below HN.out.1
           have hEv := Go.Proofs.YtfclnhmijjlhdaaGreatDoor.Ev.Sl.below hev HN.out.1
           have hsz := hLx.old.size
           have hrt := hTm.rt
           have htn : TL.length ≤ 1073741825 := by
            have e1 := HI3.out.ho.set_le
            have e2 := hTm.tl
            omega
           obtain ⟨v', w7, hrun, hown, hgr, hv'⟩ := ap_evs w6 w1.heap.size u7 _ _ hrt htn hsz va vL vc 40
           have htell := hTm.tell (x := xs) hown hgr hv' (fun g hg => by
            rcases Nat.eq_zero_or_pos (lab' g) with e | e
            · exact e
            · have := hLx.lt g (by show lab' g ≠ 0; omega); omega) hEv (fun g hg => t4 g ⟨hz, hg⟩)
           obtain ⟨ao7, cap7, rfl⟩ := row_form hown
           obtain ⟨aoT, capT, rfl⟩ := row_form hrt
           obtain ⟨p0, p1⟩ := HN.out.2.two
           have HTl := hid htell
           have HGr := hid (tq_grown (d := 4) hLx HGe.out (by decide) hv' (fun g hg => hTm.lt g hg) htell.2 (fun g hg => owns_lt hown hg))
           have HE4 := hid e4
           clear hw hL5 hK5 hg5 hE hOk t1 t2 t3 t4 t5 e4 hev HCl HXn HI3 b0 b1 b2 hTm hLx hEv hsz hrt htn hown hgr hv' htell
           go_upto_region 10 with fail
           go_wp2_with fail
           go_roundg (gk - 1)
           case measure => omega
           case rel =>
            obtain ⟨l1, l2⟩ := HGr.out
            refine ⟨i + 1, stepM stepP c, v0, v1, TL ++ [.slice va vL vc], _, by omega, by go_num, ⟨l1, l2, HHo.out, ?_, HCf3.out⟩, (HLs.out 0).2.trans HMe.out⟩
            rw [(HLs.out 0).1, (HLs.out 1).1, HE4.out]
            exact HTl.out.1
         · go_upto_region 10 with (go_at_call 17; ((with_reducible refine HCl.out.mono ?_); rintro e w5 ⟨y, va, vL, vc, xs, rfl, hE, hOk, hL5, hK5, hg5⟩))
           have hL6 := hL5.less (G' := Gl lab) (fun g hg => .inl hg)
           rw [hE hz] at hL6
           have HT5 := hid (HI3.out.tm.kx hK5)
           have HGe := hid HI3.out.ge
           have HCf3 := hid HI3.out.cf
           have HHo := hid (HI3.out.ho.more (Nat.le_succ i))
           have HL5 := hid hL6
           clear hL5 hL6 hK5 hg5 hE hOk HCl HXn HI3 b0 b1 b2
           go_wp2_with fail
           go_roundg (gk - 1)
           case measure => omega
           case rel => exact ⟨i + 1, c, v0, v1, TL, lab, by omega, by go_num, Tq.below ⟨HL5.out, HGe.out, HHo.out, HT5.out, HCf3.out⟩ (bal (br w5) _), HMe.out⟩
       by_cases k5 : kd = 5
       · as_aux_lemma =>
         subst k5
         have n1 : ((5 : Int) == 1) = false := by decide
         have n2 : ((5 : Int) == 2) = false := by decide
         have n3 : ((5 : Int) == 3) = false := by decide
         have n4 : ((5 : Int) == 4) = false := by decide
         have HCl := hid (HI3.out.lx.free HI3.out.ho (by omega) f)
         go_upto_region 10 with (go_at_call 18; ((with_reducible refine HCl.out.mono ?_); rintro e w5 ⟨⟨y, rfl⟩, hL5, hK5⟩))
         have HT5 := hid (HI3.out.tm.kx hK5)
         have HGe := hid HI3.out.ge
         have HCf3 := hid HI3.out.cf
         have HHo := hid ((HI3.out.ho.free f).1.more (Nat.le_succ i))
         have HL5 := hid hL5
         clear hL5 hK5 HCl HXn HI3 b0 b1 b2
         go_wp2_with fail
         go_roundg (gk - 1)
         case measure => omega
         case rel => exact ⟨i + 1, freeM c f, v0, v1, TL, lab, by omega, by go_num, ⟨HL5.out, HGe.out, HHo.out, HT5.out, HCf3.out⟩, HMe.out⟩
       have n1 : (kd == 1) = false := by simpa using k1
       have n2 : (kd == 2) = false := by simpa using k2
       have n3 : (kd == 3) = false := by simpa using k3
       have n4 : (kd == 4) = false := by simpa using k4
       have n5 : (kd == 5) = false := by simpa using k5
       have HHo := hid (HI3.out.ho.more (Nat.le_succ i))
       clear HXn
       go_upto_region 10 with fail
       go_wp2_with fail
       go_roundg (gk - 1)
       case measure => omega
       case rel => exact ⟨i + 1, c, v0, v1, TL, lab, by omega, by go_num, ⟨HI3.out.lx, HI3.out.ge, HHo.out, HI3.out.tm, HI3.out.cf⟩, HMe.out⟩
   · have hx : (i < len ∧ ¬ i < 200) ∨ ¬ i < len := by omega
     have hi2 : i ≤ 200 := by omega
     rcases hx with ⟨hx1, hx2⟩ | hx1
     all_goals
      as_aux_lemma =>
      first
       | (have hli : (i : Int) < (len : Int) := (by omega); have h2i : ¬ (i : Int) < 200 := (by omega))
       | have hli : ¬ (i : Int) < (len : Int) := (by omega)
      clear hI hBw hme
      go_upto_region 32 with fail
      have q0 := (HI.out.cf.below HI.out.lx.old).four.1
      go_upto_region 33 with (go_at_call 19; ((with_reducible refine (Gm.start_c _ _).mono ?_); rintro e w5 ⟨rfl, h5⟩))
      generalize hw : World.setRow _ _ _ = w6
      obtain ⟨h6, hs6⟩ := new_st w5 (beginS sd) w6 hw
      have hq6 := (HI.out.below h5).made h6 hs6.lt
      have HlS := hid (show labP lab (some w5.heap.size) 6 w5.heap.size = 6 by unfold labP; rw [if_pos rfl])
      have HQ := hid hq6
      have HS := hid hs6
      clear hw h6 hs6 hq6 h5 HI HBw q0
      generalize labP lab (some w5.heap.size) 6 = lab' at *
      generalize w5.heap.size = S at *
      go_upto_region 34 with fail
      go_loopg [19] 200 (fun gq s19 wq => ∃ q : Nat, gq + q = 200 ∧ q ≤ setN c ∧ s19 = .int .i64 q ∧ Tq w1 wq b c (beginS sd) i w.heap.size #[.int .u32 sd, .int .i64 d, .int .i64 wi, .int .i64 me] B v0 v1 u7 TL lab' ∧ At wq S (stC (runS stepP (beginS sd) (knownI c) q)).toArray 65)
      case atStart => exact ⟨0, rfl, Nat.zero_le _, rfl, HQ.out, HS.out⟩
      case round => as_aux_lemma =>
       obtain ⟨q, hgq, hqn, rfl, hQ, hS⟩ := hrel
       clear HQ HS
       have HQ := hid hQ
       have HS := hid hS
       have HSe := hid (hQ.lx.lc.settled hQ.ho (by omega))
       have hsl := hQ.ho.set_le
       clear hQ hS
       by_cases hqs : q < setN c
       · have hle : (q : Int) ≤ (setN c : Int) - 1 := by omega
         go_upto_region 36 with (go_at_call 20; ((with_reducible refine HSe.out.mono ?_); rintro e w6 ⟨rfl, h6⟩))
         have hQ6 := HQ.out.below h6
         have hS6 := HS.out.below h6
         have HQ6 := hid hQ6
         have HS6 := hid hS6
         obtain ⟨m0, m1, m2, m3⟩ := hQ6.ho.known (t := 0) (by omega) hqs
         obtain ⟨m4, m5, m6, m7⟩ := hQ6.ho.known (t := 1) (by omega) hqs
         have hTq := hQ6.ho.tld hqs
         have hRq := hQ6.ho.ran hqn
         obtain ⟨gms, gfr, _⟩ := hQ6.ho.gd _ _ hRq
         have hnx : runS stepP (beginS sd) (knownI c) (q + 1) = (stepP (runS stepP (beginS sd) (knownI c) q) (knownI c 0 q) (knownI c 1 q)).1 := rfl
         generalize runS stepP (beginS sd) (knownI c) q = R at *
         generalize knownI c 0 q = y0 at *
         generalize knownI c 1 q = y1 at *
         obtain ⟨g0, cp0, e0, j0, l0, _⟩ := owns_at hQ6.tm.r0 (j := q) (u := .int .u8 y0) (by rw [List.getElem?_map, m0]; rfl)
         obtain ⟨g1, cp1, e1, j1, l1, _⟩ := owns_at hQ6.tm.r1 (j := q) (u := .int .u8 y1) (by rw [List.getElem?_map, m4]; rfl)
         obtain ⟨tq, htq⟩ : ∃ tq, TL[q]? = some tq := ⟨_, List.getElem?_eq_getElem (by have := hQ6.tm.tl; omega)⟩
         obtain ⟨gt, cpt, et, jt, lt, jl⟩ := owns_at hQ6.tm.rt htq
         have hevt := (hQ6.tm.ev q tq _ htq hTq).1
         obtain ⟨bi0, bi1⟩ := hQ6.tm.bi.two
         have hld : (LD 65 (.pointer (some ⟨S, 0, none⟩))).run Tryz.prog w6 = .ok (.agg (stC R).toArray) w6 := ld_row hS6 rfl
         obtain ⟨R1, hR1⟩ : ∃ R1, (stepP R y0 y1).1 = R1 := ⟨_, rfl⟩
         obtain ⟨E1, hE1⟩ : ∃ E1, (stepP R y0 y1).2 = E1 := ⟨_, rfl⟩
         rw [hE1] at hTq hevt
         rw [hR1] at hnx
         have HNx := hid hnx
         have hT6 : Tab w6 := HT1.out.below HT1.out.lt hQ6.lx.old
         have HStep : Hid (∀ X, Below w6.heap.size w6 X → Calls Tryz.prog 21 #[.agg (stC R).toArray, .agg #[.int .u8 y0, .int .u8 y1]] X fun e w' => ∃ v, e = .returned (.tuple #[.agg (stC R1).toArray, v, .int .i64 0]) ∧ Evs w' v E1 ∧ Below X.heap.size X w' ∧ Below w6.heap.size w6 w' ∧ ∀ k, v.ownBlock = some k → X.heap.size ≤ k) := hid (fun X hX => by
          refine (Gm.step_c R y0 y1 X (hT6.below hT6.lt hX) (Gm.ms_ty gms) (Gm.ms_right gms) ⟨m1, m2⟩ ⟨m5, m6⟩ (by omega)).mono ?_
          rintro e w' ⟨v, rfl, k1, k2, _, k3⟩
          rw [hR1]
          rw [hE1] at k1
          exact ⟨v, rfl, k1, k2, bt hX k2, k3⟩)
         have HKp : Hid (∀ X, Below w6.heap.size w6 X → (LD 65 (.pointer (some ⟨S, 0, none⟩))).run Tryz.prog X = .ok (.agg (stC R).toArray) X ∧ X.cell? ⟨B, 0, none⟩ = some v0 ∧ X.cell? ⟨B, 1, none⟩ = some v1 ∧ X.cell? ⟨g0, q, none⟩ = some (.int .u8 y0) ∧ X.cell? ⟨g1, q, none⟩ = some (.int .u8 y1)) := hid (fun X hX => by
          obtain ⟨k1, k2⟩ := (hQ6.tm.bi.below hX).two
          exact ⟨ld_row (hS6.below hX) rfl, k1, k2, (hX.cell (p := ⟨g0, q, none⟩) l0).trans j0, (hX.cell (p := ⟨g1, q, none⟩) l1).trans j1⟩)
         have HEt := hid hevt
         have HTq := hid htq
         clear hQ6 hS6 hTq hRq gms gfr hR1 hE1 hnx hevt m0 m1 m2 m4 m5 m6 hT6 htq
         subst e0 e1 et
         go_cut [20, 21, 22] (fun s20 s21 s22 wx => ∃ n a L cp, s20 = .pointer (some ⟨n, 0, none⟩) ∧ s21 = .slice a L cp ∧ s22 = .int .i64 0 ∧ Below w6.heap.size w6 wx ∧ At wx n (stC R1).toArray 65 ∧ Evs wx (.slice a L cp) E1 ∧ w6.heap.size ≤ n)
         case first => as_aux_lemma =>
          go_region_held3 (fun X => (LD 65 (.pointer (some ⟨S, 0, none⟩))).run Tryz.prog X = .ok (.agg (stC R).toArray) X ∧ X.cell? ⟨B, 0, none⟩ = some (.slice (some ⟨g0, 0, none⟩) (c.F 0).L.length cp0) ∧ X.cell? ⟨B, 1, none⟩ = some (.slice (some ⟨g1, 0, none⟩) (c.F 1).L.length cp1) ∧ X.cell? ⟨g0, q, none⟩ = some (.int .u8 y0) ∧ X.cell? ⟨g1, q, none⟩ = some (.int .u8 y1))
           (first | exact HKp.out _ (by repeat (first | exact br _ | assumption | refine bal ?_ _ | refine bd1 ?_ | refine Gm.below_row ?_ (by first | assumption | exact Nat.le_refl _) _)) | go_keep)
           (first | (go_at_call 21; ((with_reducible refine (HStep.out _ (by repeat (first | exact br _ | assumption | refine bal ?_ _ | refine bd1 ?_ | refine Gm.below_row ?_ (by first | assumption | exact Nat.le_refl _) _))).mono ?_); rintro e w7 ⟨v, rfl, hev, hB7, hG7, hO7⟩; obtain ⟨va, vL, vc, rfl, _⟩ := id hev; have hle7 := hG7.size; (try have hz7 : At w7 w6.heap.size (stC zeroS).toArray 65 := At.below (by first | exact At.new _ _ _ | exact At.drew (At.new _ _ _)) hB7); (try have hsd7 : (SD 65 (.pointer (some ⟨w6.heap.size, 0, none⟩)) (.agg (stC R1).toArray)).run Tryz.prog w7 = .ok () (w7.setRow w6.heap.size (stC R1).toArray) := sd_row hz7 rfl rfl (Gm.stC_one R1)))))
          all_goals
           go_wp2_with fail
           go_meet
           case rel =>
            first
             | exact ⟨w7.heap.size, va, vL, vc, rfl, rfl, rfl, (by repeat (first | exact br _ | assumption | refine bal ?_ _ | refine bd1 ?_ | refine Gm.below_row ?_ (by first | assumption | exact Nat.le_refl _) _)), Gm.at_row (At.new w7 _ _) _, Go.Proofs.YtfclnhmijjlhdaaGreatDoor.Ev.Sl.below hev (by repeat (first | exact br _ | assumption | refine bal ?_ _ | refine bd1 ?_ | refine Gm.below_row ?_ (by first | assumption | exact Nat.le_refl _) _)), hle7⟩
             | exact ⟨w6.heap.size, va, vL, vc, rfl, rfl, rfl, (by repeat (first | exact br _ | assumption | refine bal ?_ _ | refine bd1 ?_ | refine Gm.below_row ?_ (by first | assumption | exact Nat.le_refl _) _)), Gm.at_row hz7 _, evs_keeps hev (keeps_row _ _ _) (fun j hj _ e => by
              have h2 : (w6.alloc (.cells (stC zeroS).toArray 65)).heap.size ≤ j := hO7 j hj
              rw [World.size_alloc] at h2
              omega), Nat.le_refl _⟩
             | trace_state
         case rest => as_aux_lemma =>
          obtain ⟨n, va, vL, vc, rfl, rfl, rfl, hB8, hn8, hev8, hnge⟩ := hcut
          have HQ8 := hid (HQ6.out.below hB8)
          have HS8 := hid (HS6.out.below hB8)
          have HN8 := hid hn8
          have jt8 : wc.cell? ⟨gt, q, none⟩ = some tq := (hB8.cell (p := ⟨gt, q, none⟩) lt).trans jt
          have hevt8 := Go.Proofs.YtfclnhmijjlhdaaGreatDoor.Ev.Sl.below HEt.out hB8
          obtain ⟨ta, tL, tc, rfl, _⟩ := id HEt.out
          have HSm : Hid (Calls Tryz.prog 22 #[.slice va vL vc, .slice ta tL tc] wc fun e w' => e = .returned (.bool true) ∧ Below wc.heap.size wc w') := hid ((Go.Proofs.YtfclnhmijjlhdaaGreatDoor.Ev.rsame_c _ _ E1 E1 wc hev8 hevt8).mono (fun e w' h => ⟨h.1.trans (by rw [decide_eq_true rfl]), h.2.below⟩))
          clear hB8 hn8 hev8 hevt8 jt j0 j1 bi0 bi1 hld HQ6 HS6 HEt HStep HKp
          go_upto_region 39 with (go_at_call 22; ((with_reducible refine HSm.out.mono ?_); rintro e w9 ⟨rfl, hB9⟩))
          have hS9 := HS8.out.below hB9
          have hn9 := HN8.out.below hB9
          have HQ9 := hid (HQ8.out.below hB9)
          have HS9 := hid hS9
          have hld9 : (LD 65 (.pointer (some ⟨n, 0, none⟩))).run Tryz.prog w9 = .ok (.agg (stC R1).toArray) w9 := ld_row hn9 rfl
          have hsd9 : (SD 65 (.pointer (some ⟨S, 0, none⟩)) (.agg (stC R1).toArray)).run Tryz.prog w9 = .ok () (w9.setRow S (stC R1).toArray) := sd_row hS9 rfl rfl (Gm.stC_one R1)
          clear hS9 hn9 hB9 HSm jt8
          go_wp2_with fail
          go_roundg (gk - 1)
          case measure => omega
          case rel =>
           refine ⟨q + 1, by omega, by omega, by go_num, HQ9.out.own (Keeps.mono (keeps_row _ _ _) (fun g _ e => by rw [e]; exact HlS.out)), ?_⟩
           rw [HNx.out]
           exact Gm.at_row HS9.out _
       · have hle : ¬ (q : Int) ≤ (setN c : Int) - 1 := by omega
         obtain rfl : q = setN c := by omega
         go_upto_region 40 with (go_at_call 20; ((with_reducible refine HSe.out.mono ?_); rintro e w6 ⟨rfl, h6⟩))
         have hQ6 := HQ.out.below h6
         have HS6 := hid (HS.out.below h6)
         have HSe6 := hid (hQ6.lx.lc.settled hQ6.ho (by omega))
         obtain ⟨R, hR⟩ : ∃ R, runS stepP (beginS sd) (knownI c) (setN c) = R := ⟨_, rfl⟩
         have hran := hQ6.ho.ran (Nat.le_refl _)
         rw [hR] at hran HS6
         have HSt : Hid (∀ X, Below w6.heap.size w6 X → Calls Tryz.prog 23 #[.pointer (some ⟨b, 0, none⟩), .int .i64 (setN c : Nat)] X fun e w' => e = .returned (.tuple #[.agg (stC R).toArray, .bool true]) ∧ Below X.heap.size X w') := hid (fun X hX => (hQ6.lx.below hX).state hQ6.ho (setN c) hsl.2.2.1 hsl.1 hran)
         have HBf := hid (bt HB1.out hQ6.lx.old)
         have hwr : IntKind.i64.wrap ((setN c : Int) - 1 + 1) = (setN c : Int) := by rw [Int.sub_add_cancel]; exact IntWalk.i64_in _ (by omega)
         have hwr2 : IntKind.i64.wrap (setN c : Int) = (setN c : Int) := IntWalk.i64_in _ (by omega)
         clear hQ6 hR hran HQ HS HSe
         go_upto_region 41 with (first
          | (go_at_call 20; ((with_reducible refine HSe6.out.mono ?_); rintro e w7 ⟨rfl, h7⟩))
          | (go_at_call 23; ((with_reducible refine (HSt.out _ h7).mono ?_); rintro e w8 ⟨rfl, h8⟩)))
         generalize hw : World.setRow _ _ _ = w9
         obtain ⟨h9, hs9⟩ := new_st w8 R w9 hw
         have HBn := hid (bt (bt (bt HBf.out h7) h8) h9)
         have hld9 : (LD 65 (.pointer (some ⟨w8.heap.size, 0, none⟩))).run Tryz.prog w9 = .ok (.agg (stC R).toArray) w9 := ld_row hs9 rfl
         have hld9b : (LD 65 (.pointer (some ⟨S, 0, none⟩))).run Tryz.prog w9 = .ok (.agg (stC R).toArray) w9 := ld_row (((HS6.out.below h7).below h8).below h9) rfl
         clear hw h7 h8 h9 hs9
         go_wp2_with (refine wpList_val_w (by rfl) (exec_eqS _ _ _ _ rfl R R rfl rfl (.bool true) (by simp)) ?_)
         go_ret
         exact ⟨rfl, HBn.out⟩
theorem tells_w (x : Int × Int × Int × Int) (ad : Option Addr) (len cap : Nat) (w : World) (htab : Tab w) (hx : 0 ≤ x.1 ∧ x.1 < 4294967296) (ha : Acts w ad len) :
 Calls Tryz.prog 4 #[.agg #[.int .u32 x.1, .int .i64 x.2.1, .int .i64 x.2.2.1, .int .i64 x.2.2.2], .slice ad len cap] w fun e w' => e = .returned (.bool true) ∧ Below w.heap.size w w' := by
 cases hc : cfgB x.2.1 x.2.2.1 x.2.2.2 with
 | false => exact tells_no _ _ _ _ _ _ _ _ htab hc
 | true =>
  have h : 0 ≤ x.2.1 ∧ 0 ≤ x.2.2.1 ∧ 0 ≤ x.2.2.2 := by unfold cfgB at hc; simp at hc; omega
  have e1 : ((x.2.1.toNat : Nat) : Int) = x.2.1 := by omega
  have e2 : ((x.2.2.1.toNat : Nat) : Int) = x.2.2.1 := by omega
  have e3 : ((x.2.2.2.toNat : Nat) : Int) = x.2.2.2 := by omega
  have := tells_yes x.1 x.2.1.toNat x.2.2.1.toNat x.2.2.2.toNat ad len cap w htab hx ha (by rw [e1, e2, e3]; exact hc)
  rw [e1, e2, e3] at this
  exact this
end Go.Proofs.YtfclnhmijjlhdaaGreatDoor.Cr
