/- What New of package core returns (layer 15, core). -/
/- What Step of a core answers and leaves (layer 15, core). -/
import Derived.Test.YtfclnhmijjlhdaaGreatDoorJ24
namespace Go.Proofs.YtfclnhmijjlhdaaGreatDoor.Cr
open Go.RowKit Go.Proofs.YtfclnhmijjlhdaaGreatDoor.Rg
open Go.Proofs.YtfclnhmijjlhdaaGreatDoor.Fd (Fed takeV takeB takeM isTk putE putM trimN trimM newF)
open Go.Proofs.YtfclnhmijjlhdaaGreatDoor.Gm (St stC zeroS stepP Tab tyS rightS Ms beginS)
open Go.Proofs.YtfclnhmijjlhdaaGreatDoor.Ev (Ev At bt br bal bd1 bdn Evs pageI Row)
open Go.Proofs.YtfclnhmijjlhdaaGreatDoor.Sw (Rising lo lo_le lo_lt hasF hasF_some hasF_none thingS putL own1 fold_ld1 fold_sd1 fold_al1 alloc_st LD SD AL ld_row sd_row)
open Go.Proofs.YtfclnhmijjlhdaaGreatDoor.Co (Co now common full other setN putAt putAt_len putAt_get play)
set_option linter.unusedVariables false
set_option maxRecDepth 100000

/-- a feed of which j frames are known to be 0. -/
def Dl (j : Nat) : FD := ⟨List.replicate j 0, 0, fun _ => none⟩
theorem dl_put {j : Nat} (hj : j < 8) : putE (Dl j) (j : Int) 0 = 0 ∧ putM (Dl j) (j : Int) 0 = Dl (j + 1) := by
 have h : putE (Dl j) (j : Int) 0 = 0 := by
  unfold Fd.putE
  rw [if_neg (by omega), if_neg (by simp [Dl]), if_neg (by simp [Dl]), if_neg (by simp [Dl]; omega)]
 refine ⟨h, ?_⟩
 unfold Fd.putM
 rw [if_pos h]
 unfold Dl
 rw [List.replicate_succ']
def pp (bf : Nat → Nat) (q t : Nat) : Value := if t < q then .pointer (some ⟨bf t, 0, none⟩) else .pointer none

/-- a core that is being made: q of its feeds are there. -/
structure Nz (W0 W : World) (b : Nat) (bf : Nat → Nat) (FF : Nat → Nat → Prop) (bs : Nat) (ao : Option Addr) (cap d wi me : Nat) (sd : Int) (m : Nat → FD) (q : Nat) (l : List (Int × St)) : Prop where
 blk : At W b #[.int .i64 d, .int .i64 wi, .int .i64 me, pp bf q 0, pp bf q 1, .pointer (some ⟨bs, 0, none⟩), .int .i64 0] 85
 fed : ∀ t, t < q → Fed W W0.heap.size (bf t) (FF t) (m t)
 ap : ∀ s t, s < q → t < q → s ≠ t → ∀ i, FF s i → ¬ FF t i
 win : Sw.Win W W0.heap.size 129 132 bs 65 0 ao cap l
 cfg : At W W0.heap.size #[.int .u32 sd, .int .i64 d, .int .i64 wi, .int .i64 me] 24
 ge : W0.heap.size ≤ b
 old : Below W0.heap.size W0 W

section
variable {W0 W W' : World} {b : Nat} {bf : Nat → Nat} {FF : Nat → Nat → Prop} {bs : Nat} {ao : Option Addr} {cap d wi me : Nat} {sd : Int} {m : Nat → FD} {q : Nat} {l : List (Int × St)}
theorem Nz.below (h : Nz W0 W b bf FF bs ao cap d wi me sd m q l) (g : Below W.heap.size W W') : Nz W0 W' b bf FF bs ao cap d wi me sd m q l :=
 ⟨h.blk.below g, fun t ht => (h.fed t ht).old g, h.ap, h.win.old g, h.cfg.below g, h.ge, bt h.old g⟩
theorem Nz.hole (h : Nz W0 W b bf FF bs ao cap d wi me sd m q l) (hq : q < 2) : W.cell? ⟨b, 3 + q, none⟩ = some (.pointer none) := by
 rw [cell_of_row _ _ _ _ _ _ h.blk]
 rcases (show q = 0 ∨ q = 1 by omega) with rfl | rfl <;> simp [pp]
theorem Nz.cell (h : Nz W0 W b bf FF bs ao cap d wi me sd m q l) {t : Nat} (ht : t < q) (hq : q ≤ 2) : W.cell? ⟨b, 3 + t, none⟩ = some (.pointer (some ⟨bf t, 0, none⟩)) := by
 rw [cell_of_row _ _ _ _ _ _ h.blk]
 rcases (show t = 0 ∨ t = 1 by omega) with rfl | rfl
 · simp [pp, ht]
 · simp [pp, ht]
/-- one more feed. -/
theorem Nz.more (h : Nz W0 W b bf FF bs ao cap d wi me sd m q l) (hq : q < 2) {bq : Nat} {F : Nat → Prop} (hF : Fed W' W0.heap.size bq F newF) (hn : ∀ i, F i → W.heap.size ≤ i) (g : Below W.heap.size W W') :
 Nz W0 (W'.setCell ⟨b, 3 + q, none⟩ (.pointer (some ⟨bq, 0, none⟩))) b (up bf q bq) (up FF q F) bs ao cap d wi me sd (up m q (Dl 0)) (q + 1) l := by
 have h1 := h.below g
 have k := keeps_cell W' b (3 + q) (.pointer (some ⟨bq, 0, none⟩))
 have hbF : ¬ F b := fun hi => by have := hn b hi; have := h.blk.lt; omega
 have hfb : ∀ t, t < q → ¬ FF t b := by
  intro t ht hi
  obtain ⟨cs, T, h1', h2⟩ := (h.fed t ht).kind hi
  have := Eq.trans (Eq.symm h.blk) h1'
  simp at this
  obtain ⟨_, e⟩ := this
  subst e
  rcases h2 with h2 | h2 | h2 | h2 | h2 <;> exact absurd h2 (by decide)
 have hwb : ¬ Foot bs ao b := by
  rintro (rfl | ⟨x, hx, e⟩)
  · have := Eq.trans (Eq.symm h.blk) h.win.block; simp at this
  · rcases h.win.form with ⟨h4, _⟩ | ⟨g', cur, h4, _, hg, _⟩
    · rw [h4] at hx; cases hx
    · rw [h4] at hx; cases hx
      simp only at e
      subst e
      have := Eq.trans (Eq.symm h.blk) hg; simp at this
 refine ⟨?_, ?_, ?_, h1.win.keeps k (fun i hi e => hwb (e ▸ hi)), ?_, h.ge, ?_⟩
 · have hc := heap_setCell_same W' b (3 + q) _ _ (.pointer (some ⟨bq, 0, none⟩)) h1.blk
   unfold At
   rw [hc]
   rcases (show q = 0 ∨ q = 1 by omega) with rfl | rfl
   · simp [pp, up]
   · simp [pp, up]
 · intro t ht
   by_cases e : t = q
   · subst e
     rw [up_same, up_same, up_same]
     exact hF.keeps k (fun i hi e => hbF (e ▸ hi))
   · rw [up_other _ _ e, up_other _ _ e, up_other _ _ e]
     exact (h1.fed t (by omega)).keeps k (fun i hi e' => hfb t (by omega) (e' ▸ hi))
 · have hlt : ∀ t, t < q → ∀ i, FF t i → i < W.heap.size := fun t ht i hi => (h.fed t ht).lt i hi
   intro s t hs ht hst i h3 h4
   by_cases e1 : s = q
   · subst e1
     rw [up_same] at h3
     rw [up_other _ _ (by omega)] at h4
     have := hn i h3; have := hlt t (by omega) i h4; omega
   · rw [up_other _ _ e1] at h3
     by_cases e2 : t = q
     · subst e2
       rw [up_same] at h4
       have := hn i h4; have := hlt s (by omega) i h3; omega
     · rw [up_other _ _ e2] at h4
       exact h.ap s t (by omega) (by omega) hst i h3 h4
 · have hne : W0.heap.size ≠ b := by
    intro e
    have e1 := h.cfg
    rw [e] at e1
    have := Eq.trans (Eq.symm h.blk) e1
    simp at this
   exact at_cell_far h1.cfg hne _ _
 · have := h1.old
   exact ⟨this.os, this.tape, this.output, Nat.le_trans this.size k.size, fun i hi => (k.block i (Nat.lt_of_lt_of_le hi this.size) (fun e => by have := h.ge; omega)).trans (this.block i hi)⟩
/-- the last feed was changed. -/
theorem Nz.setF (h : Nz W0 W b bf FF bs ao cap d wi me sd m (q + 1) l) {m' : FD} (L : Go.Proofs.YtfclnhmijjlhdaaGreatDoor.Fd.Left W0.heap.size (bf q) (FF q) m' W W') : ∃ F', Nz W0 W' b bf (up FF q F') bs ao cap d wi me sd (up m q m') (q + 1) l := by
 obtain ⟨F', h1, h2⟩ := L.ex
 have hk := L.keeps
 have hf := h.fed q (by omega)
 have hnk : ∀ {B : Nat} {cs : Array Value} {T : TypeId}, At W B cs T → ¬ T ∈ ([141, 174, 5, 177, 189] : List Nat) → ¬ FF q B := by
  intro B cs T hB hT hi
  obtain ⟨cs', T', h1', h2'⟩ := hf.kind hi
  have := Eq.trans (Eq.symm hB) h1'
  simp at this
  obtain ⟨_, e⟩ := this
  rw [e] at hT
  apply hT
  rcases h2' with h2' | h2' | h2' | h2' | h2' <;> simp [h2']
 have hat : ∀ {B : Nat} {cs : Array Value} {T : TypeId}, At W B cs T → ¬ T ∈ ([141, 174, 5, 177, 189] : List Nat) → At W' B cs T := by
  intro B cs T hB hT
  unfold At
  rw [hk.block B hB.lt (hnk hB hT)]
  exact hB
 refine ⟨F', hat h.blk (by decide), ?_, ?_, h.win.keeps hk ?_, hat h.cfg (by decide), h.ge, h.old.trans (hk.below h.old.size hf.ge)⟩
 · intro t ht
   by_cases e : t = q
   · subst e
     rw [up_same, up_same]; exact h1
   · rw [up_other _ _ e, up_other _ _ e]
     exact (h.fed t ht).keeps hk (h.ap t q ht (by omega) e)
 · intro s t hs ht hst i h3 h4
   have hlt : ∀ t, t < q + 1 → ∀ i, FF t i → i < W.heap.size := fun t ht i hi => (h.fed t ht).lt i hi
   by_cases e1 : s = q
   · subst e1
     rw [up_same] at h3
     rw [up_other _ _ (by omega)] at h4
     rcases h2 i h3 with h5 | h5
     · exact h.ap s t hs ht hst i h5 h4
     · have := hlt t ht i h4; omega
   · rw [up_other _ _ e1] at h3
     by_cases e2 : t = q
     · subst e2
       rw [up_same] at h4
       rcases h2 i h4 with h5 | h5
       · exact h.ap s t hs ht hst i h3 h5
       · have := hlt s hs i h3; omega
     · rw [up_other _ _ e2] at h4
       exact h.ap s t hs ht hst i h3 h4
 · rintro i (rfl | ⟨x, hx, rfl⟩)
   · exact hnk h.win.block (by decide)
   · rcases h.win.form with ⟨h4, _⟩ | ⟨g', cur, h4, _, hg, _⟩
     · rw [h4] at hx; cases hx
     · rw [h4] at hx; cases hx
       exact hnk hg (by decide)
/-- it is made. -/
theorem Nz.done (h : Nz W0 W b bf FF bs ao cap d wi me sd m 2 l) : CP W W0.heap.size b bf FF bs ao cap d wi me m 0 0 l :=
 ⟨h.blk, h.ge, h.fed, h.win, h.ap 0 1 (by omega) (by omega) (by omega)⟩
end

attribute [local go_sem ↓] fold_ld1 fold_sd1 fold_al1
attribute [local go_sem] alloc_st
theorem new_no (sd d wi me : Int) (w : World) (hc : cfgB d wi me = false) : Calls Tryz.prog 8 #[.agg #[.int .u32 sd, .int .i64 d, .int .i64 wi, .int .i64 me]] w fun e w' => e = .returned (.tuple #[.pointer none, .int .i64 1]) ∧ Below w.heap.size w w' := by
 have HB := hid (bal (br w) (.cells #[.int .u32 sd, .int .i64 d, .int .i64 wi, .int .i64 me] 24))
 have HC := hid hc
 clear hc
 go_enter Tryz.func8, Tryz.ntmps8
 go_wp2_with (go_at_call 30; ((with_reducible refine (mayBe_c _ _ _ _ _).mono ?_); rintro e w1 ⟨rfl, hB⟩; rw [HC.out]))
 go_ret2
 exact ⟨rfl, bt HB.out hB⟩

set_option maxHeartbeats 4000000 in
theorem new_c (sd : Int) (d wi me : Nat) (w : World) (hc : cfgB d wi me = true) : Calls Tryz.prog 8 #[.agg #[.int .u32 sd, .int .i64 d, .int .i64 wi, .int .i64 me]] w fun e w' => ∃ b, e = .returned (.tuple #[.pointer (some ⟨b, 0, none⟩), .int .i64 0]) ∧
      (∃ bf FF bs ao cap, CP w' w.heap.size b bf FF bs ao cap d wi me (fun _ => Dl d) 0 0 (fr 0 [beginS sd])) ∧ Below w.heap.size w w' := by
 have hd : d ≤ 8 := by unfold cfgB at hc; simp at hc; omega
 have HB := hid (bal (br w) (.cells #[.int .u32 sd, .int .i64 d, .int .i64 wi, .int .i64 me] 24))
 have HN := hid (At.new w #[.int .u32 sd, .int .i64 d, .int .i64 wi, .int .i64 me] 24)
 have HC := hid hc
 have hOp : ∀ X, w.heap.size ≤ X.heap.size → Calls Tryz.prog 31 #[.int .i64 65, .int .i64 0] X fun e w' => e = .returned (.tuple #[.pointer (some ⟨X.heap.size, 0, none⟩), .int .i64 0]) ∧ Sw.Win w' w.heap.size 129 132 X.heap.size 65 0 none 0 [] ∧ Below X.heap.size X w' := fun X hX => Sw.open_c 65 0 w.heap.size (by decide) (by decide) X hX
 have HOp := hid hOp
 clear hc hOp
 go_enter Tryz.func8, Tryz.ntmps8
 go_upto_region 1 with fail
 generalize hw : World.alloc _ _ = w0
 have HB0 : Hid (Below w.heap.size w w0) := hid (by rw [← hw]; exact HB.out)
 have HN0 : Hid (At w0 w.heap.size #[.int .u32 sd, .int .i64 d, .int .i64 wi, .int .i64 me] 24) := hid (by rw [← hw]; exact HN.out)
 clear hw HB HN
 obtain ⟨c0, c1, c2, c3⟩ := HN0.out.four
 go_upto_region 4 with (first
  | (go_at_call 30; ((with_reducible refine (mayBe_c _ _ _ _ _).mono ?_); rintro e w1 ⟨rfl, hB⟩; rw [HC.out]; have HB1 := hid (bt HB0.out hB); have HN1 := hid (HN0.out.below hB)))
  | (go_at_call 31; ((with_reducible refine (HOp.out _ HB1.out.size).mono ?_); rintro e w2 ⟨rfl, hW2, hB2⟩)))
 have HB2 := hid (bt HB1.out hB2)
 have HN2 := hid (HN1.out.below hB2)
 have hbs : w.heap.size < w1.heap.size := HN1.out.lt
 have HW2 := hid hW2
 clear c0 c1 c2 c3 hW2 hB2 hB HB1 HN1 HB0 HN0
 generalize w1.heap.size = bs at *
 obtain ⟨c0, c1, c2, c3⟩ := HN2.out.four
 have hPut : ∀ X, Below w2.heap.size w2 X → Calls Tryz.prog 32 #[.pointer (some ⟨bs, 0, none⟩), .int .i64 0, .agg (stC (beginS sd)).toArray] X fun e w' => e = .returned (.int .i64 0) ∧ ∃ ao' cap', Sw.Win w' w.heap.size 129 132 bs 65 0 ao' cap' (fr 0 [beginS sd]) ∧ Keeps (Foot bs none) X w' := by
  intro X hX
  refine (Sw.put_no 0 (beginS sd) w.heap.size bs 65 0 0 none [] X (HW2.out.old hX) List.Pairwise.nil (by decide) (Nat.le_trans HB2.out.size hX.size) (by omega) (by omega) (by omega) (by omega) rfl rfl).mono ?_
  rintro e w' ⟨rfl, ao', cap', k1, _, k3⟩
  exact ⟨rfl, ao', cap', k1, k3⟩
 have HPut := hid hPut
 clear hPut
 go_upto_region 5 with (first
  | (go_at_call 19; ((with_reducible refine (Gm.start_c _ _).mono ?_); rintro e w3 ⟨rfl, hB3⟩))
  | (go_at_call 32; ((with_reducible refine (HPut.out w3 hB3).mono ?_); rintro e w4 ⟨rfl, ao, cap, hW4, hK4⟩)))
 have hbs4 : ∀ i, Foot bs none i → i = bs := by
  rintro i (rfl | ⟨x, hx, _⟩)
  · rfl
  · cases hx
 have HB3 := bt HB2.out hB3
 have HB4 := hid (HB3.trans (hK4.below HB3.size (fun i hi => by have := hbs4 i hi; omega)))
 have HN4 : Hid (At w4 w.heap.size #[.int .u32 sd, .int .i64 d, .int .i64 wi, .int .i64 me] 24) := hid (by
  have h3 := HN2.out.below hB3
  unfold At
  rw [hK4.block _ h3.lt (fun hi => by have := hbs4 _ hi; omega)]
  exact h3)
 have HW4 := hid hW4
 clear c0 c1 c2 c3 hbs4 HB3 hB3 hK4 hW4 HPut HW2 HN2 HB2
 obtain ⟨c0, c1, c2, c3⟩ := HN4.out.four
 have HI : Hid (Nz w (w4.alloc (.cells #[.int .i64 d, .int .i64 wi, .int .i64 me, .pointer none, .pointer none, .pointer (some ⟨bs, 0, none⟩), .int .i64 0] 85)) w4.heap.size (fun _ => 0) (fun _ _ => False) bs ao cap d wi me sd (fun _ => Dl d) 0 (fr 0 [beginS sd])) := hid (by
  have g := bal (br w4) (.cells #[.int .i64 d, .int .i64 wi, .int .i64 me, .pointer none, .pointer none, .pointer (some ⟨bs, 0, none⟩), .int .i64 0] 85)
  exact ⟨At.new w4 _ _, fun t ht => by omega, fun s t hs => by omega, HW4.out.old g, HN4.out.below g, HB4.out.size, bt HB4.out g⟩)
 clear HW4 HN4 HB4
 go_upto_region 6 with fail
 generalize hw : World.alloc _ _ = w5
 rw [hw] at HI
 generalize w4.heap.size = b at *
 clear hw c0 c1 c2 c3
 go_wp2_with fail
 go_loopg [30] 2 (fun gk s30 wr => ∃ (q : Nat) (bf : Nat → Nat) (FF : Nat → Nat → Prop) (m : Nat → FD), gk + q = 2 ∧ s30 = .int .i64 q ∧ Nz w wr b bf FF bs ao cap d wi me sd m q (fr 0 [beginS sd]) ∧ ∀ t, t < q → m t = Dl d)
 case atStart => exact ⟨0, _, _, _, rfl, rfl, HI.out, fun t ht => by omega⟩
 case round =>
  obtain ⟨q, bf, FF, m, hq, rfl, hI, hm⟩ := hrel
  clear HI
  have HIr := hid hI
  have HM := hid hm
  clear hI hm
  by_cases hq2 : q < 2
  · have hi2 : (q : Int) < 2 := by omega
    have HId := hid (HIr.out.below (bd1 (br wr)))
    have HNew := hid (Fd.new_c w.heap.size wr.drew HId.out.old.size)
    go_upto_region 9 with fail
    go_region_held3 (fun _ => True)
     (first | go_keep | trivial)
     (first | (go_at_call 33; ((with_reducible refine HNew.out.mono ?_); rintro e w6 ⟨bq, rfl, F, hF, hn, hB6⟩; have hz6 := HId.out.below hB6; have hc6 : w6.cell? ⟨b, 3 + q, none⟩ = some (.pointer none) := hz6.hole hq2; have hf6 : w6.frozen? ⟨b, 3 + q, none⟩ = false := hz6.blk.frozen _)))
    have HZ7 := hid (HId.out.more hq2 hF hn hB6)
    clear hz6 hc6 hf6 hF hn hB6 HNew HIr HId
    generalize hw : World.setCell _ _ _ = w7
    rw [hw] at HZ7
    clear hw
    obtain ⟨c0, c1, c2, c3⟩ := HZ7.out.cfg.four
    have HI0 : Hid (∃ FF', Nz w w7 b (up bf q bq) FF' bs ao cap d wi me sd (up m q (Dl 0)) (q + 1) (fr 0 [beginS sd])) := hid ⟨_, HZ7.out⟩
    clear HZ7
    go_wp2_with fail
    go_loopg [41] d (fun gj s41 wx => ∃ (j : Nat), gj + j = d ∧ s41 = .int .i64 j ∧ ∃ FF', Nz w wx b (up bf q bq) FF' bs ao cap d wi me sd (up m q (Dl j)) (q + 1) (fr 0 [beginS sd]))
    case atStart => exact ⟨0, by omega, rfl, HI0.out⟩
    case round =>
     obtain ⟨j, hj, rfl, FF', hJ⟩ := hrel
     clear HI0 c0 c1 c2 c3
     have HJ := hid hJ
     clear hJ
     by_cases hjd : j < d
     · have hjd2 : (j : Int) < (d : Int) := by omega
       have cq := HJ.out.cell (t := q) (by omega) (by omega)
       rw [up_same] at cq
       have hP : Calls Tryz.prog 34 #[.pointer (some ⟨bq, 0, none⟩), .int .i64 j, .int .u8 0] wr fun e w' => e = .returned (.int .i64 0) ∧ ∃ F2, Nz w w' b (up bf q bq) F2 bs ao cap d wi me sd (up m q (Dl (j + 1))) (q + 1) (fr 0 [beginS sd]) := by
        have hf := HJ.out.fed q (by omega)
        rw [up_same, up_same] at hf
        have := Fd.put_c (j : Int) 0 _ _ _ _ _ hf (by omega)
        obtain ⟨e1, e2⟩ := dl_put (j := j) (by omega)
        rw [e1, e2] at this
        refine this.mono ?_
        rintro e w' ⟨rfl, L⟩
        obtain ⟨F', z⟩ := Nz.setF (m' := Dl (j + 1)) HJ.out (by rw [up_same]; exact L)
        have eu : up (up m q (Dl j)) q (Dl (j + 1)) = up m q (Dl (j + 1)) := by
         funext t; unfold up; split <;> rfl
        rw [eu] at z
        exact ⟨rfl, _, z⟩
       have HP := hid hP
       clear hP
       go_wp2_with (go_at_call 34; ((with_reducible refine HP.out.mono ?_); rintro e w8 ⟨rfl, hz8⟩))
       go_roundg (gk - 1)
       case measure => omega
       case rel => exact ⟨j + 1, by omega, by go_num, hz8⟩
     · have hjd2 : ¬ (j : Int) < (d : Int) := by omega
       obtain rfl : j = d := by omega
       go_wp2_with fail
       go_roundg (1 - q)
       case measure => omega
       case rel =>
        refine ⟨q + 1, _, _, _, by omega, by go_num, HJ.out, fun t ht => ?_⟩
        by_cases e : t = q
        · subst e; rw [up_same]
        · rw [up_other _ _ e]; exact HM.out t (by omega)
  · obtain rfl : q = 2 := by omega
    go_wp2_with fail
    go_ret2
    exact ⟨b, rfl, ⟨bf, FF, bs, ao, cap, HIr.out.done.congr (fun t ht => (HM.out t ht).symm)⟩, HIr.out.old⟩
end Go.Proofs.YtfclnhmijjlhdaaGreatDoor.Cr

namespace Go.Proofs.YtfclnhmijjlhdaaGreatDoor.Cr
open Go.RowKit Go.Proofs.YtfclnhmijjlhdaaGreatDoor.Rg
open Go.Proofs.YtfclnhmijjlhdaaGreatDoor.Fd (Fed takeV takeB takeM isTk putE putM trimN trimM wrongV knV knB)
open Go.Proofs.YtfclnhmijjlhdaaGreatDoor.Gm (St stC zeroS stepP Tab tyS rightS Ms)
open Go.Proofs.YtfclnhmijjlhdaaGreatDoor.Ev (Ev At bt br bal bd1 bdn Evs pageI Row)
open Go.Proofs.YtfclnhmijjlhdaaGreatDoor.Sw (Rising lo lo_le lo_lt hasF hasF_some hasF_none thingS putL own1 fold_ld1 fold_sd1 fold_al1 alloc_st LD SD AL ld_row sd_row)
open Go.Proofs.YtfclnhmijjlhdaaGreatDoor.Co (Co now common full other setN putAt putAt_len putAt_get play)
set_option linter.unusedVariables false
set_option maxRecDepth 100000
attribute [local go_sem ↓] fold_ld1 fold_sd1 fold_al1
attribute [local go_sem] alloc_st sd_new

section
variable {W W' : World} {n₀ b : Nat} {bf : Nat → Nat} {FF : Nat → Nat → Prop} {ao : Option Addr} {cap : Nat} {bs d wi me : Nat} {m : Nat → FD} {cur : Nat} {fi : Int} {l : List (Int × St)}
theorem page_new (w : World) : At (w.alloc (.cells #[.int .i64 0, .slice none 0 0] 51)) w.heap.size #[.int .i64 0, .slice none 0 0] 51 := At.new w _ _
theorem below_cell {w0 w : World} (h : Below w0.heap.size w0 w) {g : Nat} (hg : w0.heap.size ≤ g) (j : Nat) (v : Value) : Below w0.heap.size w0 (w.setCell ⟨g, j, none⟩ v) := by
 have k := keeps_cell w g j v
 exact ⟨h.os, h.tape, h.output, Nat.le_trans h.size k.size, fun i hi => (k.block i (Nat.lt_of_lt_of_le hi h.size) (fun e => by omega)).trans (h.block i hi)⟩
theorem page_set {w : World} {B : Nat} {x y : Value} (h : At w B #[x, y] 51) (x' y' : Value) : At ((w.setCell ⟨B, 0, none⟩ x').setCell ⟨B, 1, none⟩ y') B #[x', y'] 51 :=
 at_cell (cs := [x', y]) (at_cell (cs := [x, y]) h 0 x') 1 y'
theorem new_page (w : World) (x y : Value) : Below w.heap.size w (w.alloc (.cells #[x, y] 51)) ∧ At (w.alloc (.cells #[x, y] 51)) w.heap.size #[x, y] 51 :=
 ⟨bal (br w) _, At.new w _ _⟩
theorem wrong_q (h : CP W n₀ b bf FF bs ao cap d wi me m cur fi l) (hm : me < 2) (X : World) (hX : Below W.heap.size W X) (q : Nat) : Calls Tryz.prog 55 #[.pointer (some ⟨bf (1 - me), 0, none⟩)] (X.drewN q) fun e w' => e = .returned (.tuple #[.int .i64 (wrongV (m (1 - me))), .bool (Fd.wrong (m (1 - me))).isSome]) ∧ Below X.heap.size X w' := by
 have hf := ((h.old hX).fed (1 - me) (by omega)).drewN q
 refine (Fd.wrong_c _ _ _ _ _ hf).mono ?_
 rintro e w' ⟨rfl, hB⟩
 exact ⟨rfl, bt (bdn (br X) q) hB⟩
theorem step_wrong (h : CP W n₀ b bf FF bs ao cap d wi me m cur fi l) (hm : me < 2) (hw : (Fd.wrong (m (1 - me))).isSome = true) :
 Calls Tryz.prog 17 #[.pointer (some ⟨b, 0, none⟩)] W fun e w' => e = .returned (.tuple #[.agg #[.int .i64 0, .slice none 0 0], .int .i64 11]) ∧ Below W.heap.size W w' := by
 have HZ := hid (Cz.self h)
 have HTh := hid (fun (X : World) (bx : Below W.heap.size W X) => theirs_c ((Cz.self h).below bx) hm)
 have HW := hid (fun X hX q => wrong_q h hm X hX q)
 rw [hw] at HW
 have HP := hid (page_new W)
 have HB := hid (bal (br W) (.cells #[.int .i64 0, .slice none 0 0] 51))
 clear h hw
 generalize wrongV (m (1 - me)) = wv at *
 go_enter Tryz.func17, Tryz.ntmps17
 go_upto_region 1 with fail
 generalize hwa : World.alloc _ _ = w0
 have HP0 : Hid (At w0 W.heap.size #[.int .i64 0, .slice none 0 0] 51) := hid (by rw [← hwa]; exact HP.out)
 have HB0 : Hid (Below W.heap.size W w0) := hid (by rw [← hwa]; exact HB.out)
 clear hwa HP HB
 go_upto_region 5 with (first
  | (go_at_call 52; ((with_reducible refine (HTh.out _ HB0.out).mono ?_); rintro e w' ⟨rfl, q, rfl⟩))
  | (go_at_call 55; ((with_reducible refine (HW.out _ HB0.out q).mono ?_); rintro e w2 ⟨rfl, hB2⟩)))
 have HP2 := hid (HP0.out.below hB2)
 have HB3 := hid (bt HB0.out hB2)
 obtain ⟨p0, p1⟩ := HP2.out.two
 have f0 := HP2.out.frozen 0
 have f1 := HP2.out.frozen 1
 go_wp2_with fail
 have hp9 := page_set HP2.out (.int .i64 0) (.slice none 0 0)
 refine bodyPost_ret (Sw.results_st rfl _ _ W.heap.size 51 #[.int .i64 0, .slice none 0 0] (0, 0) _ rfl hp9 Tryz.underlying51 rfl (by kernel_rfl)) rfl ?_
 exact ⟨rfl, below_cell (below_cell HB3.out (Nat.le_refl _) _ _) (Nat.le_refl _) _ _⟩

/-- it waits. -/
theorem step_wait (h : CP W n₀ b bf FF bs ao cap d wi me m cur fi l) (hm : me < 2) (hw : (Fd.wrong (m (1 - me))).isSome = false) (hcm : cm m ≤ 1073741825) (hwi : wi ≤ 16) (hcur : cur ≤ 1073741825) (hwt : knB (m me) cur = false ∨ cm m + wi ≤ cur) :
 Calls Tryz.prog 17 #[.pointer (some ⟨b, 0, none⟩)] W fun e w' => e = .returned (.tuple #[.agg #[.int .i64 0, .slice none 0 0], .int .i64 9]) ∧ Below W.heap.size W w' := by
 have HTh := hid (fun (X : World) (bx : Below W.heap.size W X) => theirs_c ((Cz.self h).below bx) hm)
 have HMn := hid (fun (X : World) (bx : Below W.heap.size W X) => mine_c ((Cz.self h).below bx) hm)
 have HFr := hid (fun (X : World) (bx : Below W.heap.size W X) => far_c ((Cz.self h).below bx) hm hcm hwi)
 have HKn := hid (fun (X : World) (bx : Below W.heap.size W X) => Fd.known_c (cur : Int) n₀ (bf me) (FF me) (m me) X ((h.old bx).fed me hm) (by omega))
 have HCl := hid (fun (X : World) (bx : Below W.heap.size W X) => (h.old bx).cells.2.2.2.2.2.2)
 have HW := hid (fun X hX q => wrong_q h hm X hX q)
 rw [hw] at HW
 have HP := hid (page_new W)
 have HB := hid (bal (br W) (.cells #[.int .i64 0, .slice none 0 0] 51))
 obtain ⟨kb, hkb⟩ : ∃ kb, knB (m me) cur = kb := ⟨_, rfl⟩
 obtain ⟨kf, hkf⟩ : ∃ kf, decide (cm m + wi ≤ cur) = kf := ⟨_, rfl⟩
 have hor : kb = false ∨ (kb = true ∧ kf = true) := by
  rcases hwt with h1 | h1
  · exact .inl (hkb ▸ h1)
  · rcases Bool.eq_false_or_eq_true kb with h2 | h2
    · exact .inr ⟨h2, by rw [← hkf]; simpa using h1⟩
    · exact .inl h2
 rw [hkb] at HKn
 rw [hkf] at HFr
 clear h hw hwt hkb hkf
 generalize wrongV (m (1 - me)) = wv at *
 generalize knV (m me) (cur : Int) = kv at *
 rcases hor with rfl | ⟨rfl, rfl⟩
 all_goals
  go_enter Tryz.func17, Tryz.ntmps17
  go_upto_region 1 with fail
  generalize hwa : World.alloc _ _ = w0
  have HP0 : Hid (At w0 W.heap.size #[.int .i64 0, .slice none 0 0] 51) := hid (by rw [← hwa]; exact HP.out)
  have HB0 : Hid (Below W.heap.size W w0) := hid (by rw [← hwa]; exact HB.out)
  clear hwa HP HB
  go_upto_region 6 with (first
   | (go_at_call 52; ((with_reducible refine (HTh.out _ HB0.out).mono ?_); rintro e w' ⟨rfl, q, rfl⟩))
   | (go_at_call 55; ((with_reducible refine (HW.out _ HB0.out q).mono ?_); rintro e w2 ⟨rfl, hB2⟩)))
  have HP2 := hid (HP0.out.below hB2)
  have HB3 := hid (bt HB0.out hB2)
  clear HP0 HB0 hB2
  have c6 := HCl.out _ HB3.out
  have hM2 := hid (HMn.out _ (bd1 HB3.out))
  have hK2 := hid (fun q => HKn.out _ (bdn HB3.out q))
  go_region_held3 (fun X => X.cell? ⟨b, 6, none⟩ = some (.int .i64 (cur : Int)))
   (go_keep)
   (first
    | (go_at_call 51; ((with_reducible refine hM2.out.mono ?_); rintro e w' ⟨rfl, q, rfl⟩))
    | (go_at_call 56; ((with_reducible refine (hK2.out _).mono ?_); rintro e w' ⟨rfl, q2, rfl⟩)))
  clear c6
  have hF2 := hid (fun q => HFr.out _ (bdn HB3.out q))
  obtain ⟨p0, p1⟩ := HP2.out.two
  have f0 := HP2.out.frozen 0
  have f1 := HP2.out.frozen 1
  go_wp2_with (go_at_call 50; ((with_reducible refine (hF2.out _).mono ?_); rintro e w' ⟨rfl, q3, rfl⟩))
  refine bodyPost_ret (Sw.results_st rfl _ _ W.heap.size 51 #[.int .i64 0, .slice none 0 0] (0, 0) _ rfl (page_set (HP2.out.below (bdn (br w2) _)) _ _) Tryz.underlying51 rfl (by kernel_rfl)) rfl ?_
  exact ⟨rfl, below_cell (below_cell (bdn HB3.out _) (Nat.le_refl _) _ _) (Nat.le_refl _) _ _⟩

set_option maxHeartbeats 4000000 in
/-- it is played. -/
theorem step_go {A : Nat} {S : List St} {s : St} (h : CP W n₀ b bf FF bs ao cap d wi me m cur A (fr A S)) (hm : me < 2) (hw : (Fd.wrong (m (1 - me))).isSome = false) (hcm : cm m ≤ 1073741825) (hwi : wi ≤ 16) (hkn : knB (m me) cur = true) (hfar : ¬ cm m + wi ≤ cur)
 (hS : S.length ≤ 4096) (h1 : A ≤ cur) (hs : S[cur - A]? = some s) (h3 : cur + 1 ≤ 1073741824) (h4 : cur + 1 < A + 65) (hms : Ms 2 s) (hfr : s.fr = cur) (hok : ∀ t, t < 2 → Fd.Ok (m t) ∧ (m t).first ≤ cur) (htab : Tab W) (hn2 : 2 ≤ n₀) :
 Calls Tryz.prog 17 #[.pointer (some ⟨b, 0, none⟩)] W fun e w' => ∃ v, e = .returned (.tuple #[.agg #[.int .i64 cur, v], .int .i64 0]) ∧ Evs w' v (stepP s (Fd.tk (m 0) cur) (Fd.tk (m 1) cur)).2 ∧
  (∃ FF' ao' cap', CP w' n₀ b bf FF' bs ao' cap' d wi me (fun t => takeM (m t) cur) (cur + 1) A (fr A (putAt S (cur + 1 - A) (stepP s (Fd.tk (m 0) cur) (Fd.tk (m 1) cur)).1)) ∧ (∀ i, GG b FF' bs ao' i → GG b FF bs ao i ∨ W.heap.size ≤ i) ∧ Keeps (GG b FF bs ao) W w' ∧
   (∀ j, v.ownBlock = some j → (stepP s (Fd.tk (m 0) cur) (Fd.tk (m 1) cur)).2 ≠ [] → W.heap.size ≤ j ∧ ¬ GG b FF' bs ao' j)) := by
 have hkl := (List.getElem?_eq_some_iff.1 hs).1
 have HTh := hid (fun (X : World) (bx : Below W.heap.size W X) => theirs_c ((Cz.self h).below bx) hm)
 have HMn := hid (fun (X : World) (bx : Below W.heap.size W X) => mine_c ((Cz.self h).below bx) hm)
 have HFr := hid (fun (X : World) (bx : Below W.heap.size W X) => far_c ((Cz.self h).below bx) hm hcm hwi)
 have HKn := hid (fun (X : World) (bx : Below W.heap.size W X) => Fd.known_c (cur : Int) n₀ (bf me) (FF me) (m me) X ((h.old bx).fed me hm) (by omega))
 have HCl := hid (fun (X : World) (bx : Below W.heap.size W X) => (h.old bx).cells.2.2.2.2.2.2)
 have HSt := hid (fun (X : World) (bx : Below W.heap.size W X) => state_z (cur : Int) (fr_rising A S) (by rw [fr_len]; exact hS) ((Cz.self h).below bx))
 have hG2 := h.gge
 have HPl := hid (fun (X : World) (bx : Below W.heap.size W X) => play_c (h.old bx) hS h1 hs h3 h4 hms hfr hok (htab.below hn2 (bx.mono (Nat.le_of_lt (Nat.lt_of_le_of_lt h.ge h.lt)))) hn2)
 have hfs : thingS (fr A S) (cur : Int) = s := thing_fr h1 hs
 have HW := hid (fun X hX q => wrong_q h hm X hX q)
 rw [hw] at HW
 rw [hkn] at HKn
 rw [show decide (cm m + wi ≤ cur) = false by simpa using hfar] at HFr
 rw [hfs] at HSt
 have HP := hid (page_new W)
 have HB := hid (bal (br W) (.cells #[.int .i64 0, .slice none 0 0] 51))
 have HAp : Hid (∀ B cs T, At W B cs T → Od T → ¬ GG b FF bs ao B) := hid (fun B cs T hB hT => h.apart hB hT)
 have HG := hid h.glt
 have hf0 : ((stC s).toArray)[0]? = some (.int .i64 (cur : Int)) := by rw [← hfr]; rfl
 have HF0 := hid hf0
 obtain ⟨R, hR⟩ : ∃ R, stepP s (Fd.tk (m 0) cur) (Fd.tk (m 1) cur) = R := ⟨_, rfl⟩
 rw [hR] at HPl
 rw [hR]
 have hcm2 : ((cur : Int) == 1073741824) = false := by simp; omega
 have hwr : IntKind.i64.wrap ((cur : Int) + 1) = (cur : Int) + 1 := IntWalk.i64_in _ (by omega)
 clear h hw hkn hfar hs hok htab hfs hf0 hR hms hfr hG2
 generalize wrongV (m (1 - me)) = wv at *
 generalize knV (m me) (cur : Int) = kv at *
 generalize hasF (fr A S) (cur : Int) = hb at *
 go_enter Tryz.func17, Tryz.ntmps17
 go_upto_region 1 with fail
 generalize hwa : World.alloc _ _ = w0
 have HP0 : Hid (At w0 W.heap.size #[.int .i64 0, .slice none 0 0] 51) := hid (by rw [← hwa]; exact HP.out)
 have HB0 : Hid (Below W.heap.size W w0) := hid (by rw [← hwa]; exact HB.out)
 clear hwa HP HB
 go_upto_region 6 with (first
  | (go_at_call 52; ((with_reducible refine (HTh.out _ HB0.out).mono ?_); rintro e w' ⟨rfl, q, rfl⟩))
  | (go_at_call 55; ((with_reducible refine (HW.out _ HB0.out q).mono ?_); rintro e w2 ⟨rfl, hB2⟩)))
 have HP2 := hid (HP0.out.below hB2)
 have HB3 := hid (bt HB0.out hB2)
 clear HP0 HB0 hB2
 have c6 := HCl.out _ HB3.out
 have hM2 := hid (HMn.out _ (bd1 HB3.out))
 have hK2 := hid (fun q => HKn.out _ (bdn HB3.out q))
 go_region_held3 (fun X => X.cell? ⟨b, 6, none⟩ = some (.int .i64 (cur : Int)))
  (go_keep)
  (first
   | (go_at_call 51; ((with_reducible refine hM2.out.mono ?_); rintro e w' ⟨rfl, q, rfl⟩))
   | (go_at_call 56; ((with_reducible refine (hK2.out _).mono ?_); rintro e w' ⟨rfl, q2, rfl⟩)))
 have hF2 := hid (fun q => HFr.out _ (bdn HB3.out q))
 have hS2 := hid (fun q => HSt.out _ (bdn HB3.out q))
 go_upto_region 10 with (first
  | (go_at_call 50; ((with_reducible refine (hF2.out _).mono ?_); rintro e w' ⟨rfl, q3, rfl⟩))
  | (go_at_call 23; ((with_reducible refine (hS2.out _).mono ?_); rintro e w4 ⟨rfl, hB4⟩)))
 generalize hwa : World.setRow _ _ _ = w5
 obtain ⟨hB5, hs5⟩ := new_st w4 s w5 hwa
 have g5 : Below w2.heap.size w2 w5 := bt (bt (bdn (br w2) _) hB4) hB5
 have HB5 := hid (bt HB3.out g5)
 have HP5 := hid (HP2.out.below g5)
 have c0 : w5.cell? ⟨w4.heap.size, 0, none⟩ = some (.int .i64 (cur : Int)) := by rw [cell_of_row _ _ _ _ _ _ hs5]; exact HF0.out
 have c6b := HCl.out _ HB5.out
 have hPl := hid (HPl.out _ HB5.out)
 clear hwa hB5 hs5 hB4 g5 HPl HSt hS2 hF2 hK2 hM2 HP2 HB3 c6 HTh HMn HFr HKn HCl HW HF0
 generalize w4.heap.size = B8 at *
 go_upto_region 13 with (go_at_call 54; ((with_reducible refine hPl.out.mono ?_); rintro e w6 ⟨v, rfl, hev, -, ⟨FF6, ao6, cap6, cp6, near6, kp6, hv6⟩, kd6⟩; obtain ⟨av, Lv, cv, ev, -⟩ := id hev; subst ev))
 have hnp := new_page w6 (.int .i64 cur) (.slice av Lv cv)
 generalize hwa : World.alloc _ _ = w7
 rw [hwa] at hnp
 obtain ⟨hB7, hpn⟩ := hnp
 have HP6 := hid (kd6 _ _ _ HP5.out (by decide))
 have HP7 := hid (HP6.out.below hB7)
 have cp7 := cp6.old hB7
 have c6 := cp7.cells.2.2.2.2.2.2
 have f6 := cp7.frozen 6
 have HC8 := hid (cp7.setC (cur + 1))
 rw [show (((cur + 1 : Nat) : Int)) = (cur : Int) + 1 by omega] at HC8
 have hneB : w6.heap.size ≠ b := by have := cp6.lt; omega
 have hneN : W.heap.size ≠ b := fun e => cp7.apart HP7.out (by decide) (by rw [e]; exact .inl rfl)
 have HN8 := hid (at_cell_far hpn hneB 6 (.int .i64 ((cur : Int) + 1)))
 have HP8 := hid (at_cell_far HP7.out hneN 6 (.int .i64 ((cur : Int) + 1)))
 have HEV := hid (Go.Proofs.YtfclnhmijjlhdaaGreatDoor.Ev.Sl.below hev hB7)
 have HNR := hid near6
 have HKP := hid (keeps_mono kp6 (Keeps.ofOld hB7 (fun _ => False)) (fun _ e => e.elim))
 have HV6 := hid hv6
 have HGL := hid cp6.glt
 have HGB : Hid (GG b FF6 bs ao6 b) := hid (.inl rfl)
 have hN6 : W.heap.size < w6.heap.size := HP6.out.lt
 clear hwa hB7 hpn cp6 near6 kp6 hv6 kd6 cp7 hev c0 c6b hPl hneB hneN
 generalize w6.heap.size = B9 at *
 go_upto_region 14 with fail
 generalize hwa : World.setCell _ _ _ = w8
 rw [hwa] at HC8 HN8 HP8
 obtain ⟨n0, n1⟩ := HN8.out.two
 obtain ⟨p0, p1⟩ := HP8.out.two
 have f0 := HP8.out.frozen 0
 have f1 := HP8.out.frozen 1
 have K8 : Hid (Keeps (fun i => i = b) w7 w8) := hid (by rw [← hwa]; exact keeps_cell _ _ _ _)
 clear hwa c6 f6
 go_wp2_with fail
 have hN5 := HP5.out.lt
 refine bodyPost_ret (Sw.results_st rfl _ _ W.heap.size 51 #[.int .i64 cur, .slice av Lv cv] (0, 0) _ rfl (page_set HP8.out _ _) Tryz.underlying51 rfl (by kernel_rfl)) rfl ?_
 generalize hw9 : World.setCell _ _ _ = w9
 have k9 : Keeps (fun i => i = W.heap.size) w8 w9 := by
  rw [← hw9]
  exact (keeps_cell _ _ _ _).trans (keeps_cell _ _ _ _) (fun _ _ e => e)
 have hap8 := HC8.out.apart HP8.out (by decide)
 have hsz5 := HB5.out.size
 have hgb : GG b FF bs ao b := .inl rfl
 have hk : Keeps (GG b FF bs ao) W w9 :=
  keeps_mono (keeps_mono (keeps_mono (Keeps.ofOld HB5.out (GG b FF bs ao)) HKP.out (fun i hi => .inl hi)) K8.out (fun i e => .inl (by subst e; exact hgb))) k9 (fun i e => .inr (by omega))
 refine ⟨_, rfl, ?_, FF6, ao6, cap6, HC8.out.keeps k9 (fun i hi e => hap8 (e ▸ hi)), ?_, hk, ?_⟩
 · refine evs_keeps (evs_keeps HEV.out K8.out (fun j hj hl e => (HV6.out j hj hl).2 (by rw [e]; exact HGB.out))) k9 (fun j hj hl e => ?_)
   have := (HV6.out j hj hl).1
   omega
 · intro i hi
   rcases HNR.out i hi with h5 | h5
   · exact .inl h5
   · exact .inr (by omega)
 · intro j hj hl
   obtain ⟨h5, h6⟩ := HV6.out j hj hl
   exact ⟨by omega, h6⟩
end
end Go.Proofs.YtfclnhmijjlhdaaGreatDoor.Cr
