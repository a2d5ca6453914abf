/- A frame is played (layer 15, core). -/
/- What State, Kept, Free, Offer and Hear of a core answer, and what they leave (layer 15, core). -/
import Derived.Test.YtfclnhmijjlhdaaGreatDoorJ23
import Derived.Test.YtfclnhmijjlhdaaGreatDoorGmStep
import Derived.Test.YtfclnhmijjlhdaaGreatDoorJ22
namespace Go.Proofs.YtfclnhmijjlhdaaGreatDoor.Cr
open Go.RowKit Go.Proofs.YtfclnhmijjlhdaaGreatDoor.Rg
open Go.Proofs.YtfclnhmijjlhdaaGreatDoor.Fd (Fed takeV takeB takeM isTk putE putM trimN trimM)
open Go.Proofs.YtfclnhmijjlhdaaGreatDoor.Gm (St stC zeroS stepP Tab tyS rightS Ms)
open Go.Proofs.YtfclnhmijjlhdaaGreatDoor.Ev (Ev At bt br bal bd1 bdn Evs pageI Row)
open Go.Proofs.YtfclnhmijjlhdaaGreatDoor.Sw (Rising lo lo_le lo_lt hasF hasF_some hasF_none thingS putL own1 fold_ld1 fold_sd1 fold_al1 alloc_st LD SD AL ld_row sd_row)
open Go.Proofs.YtfclnhmijjlhdaaGreatDoor.Co (Co now common full other setN putAt putAt_len putAt_get play)
set_option linter.unusedVariables false
set_option maxRecDepth 100000

theorem evs_keeps {S : Nat → Prop} {w w' : World} {v : Value} {l : List Ev} (h : Evs w v l) (k : Keeps S w w') (hs : ∀ j, v.ownBlock = some j → l ≠ [] → ¬ S j) : Evs w' v l := by
 obtain ⟨ao, L, cap, e, h1, h2, h3, h4⟩ := h
 refine ⟨ao, L, cap, e, h1, h2, h3, fun hl => ?_⟩
 obtain ⟨b, o, e2, hlt, hc⟩ := h4 hl
 subst e2
 have hb := k.block b hlt (hs b (by rw [e]; rfl) (by rintro rfl; simp at hl))
 refine ⟨b, o, rfl, Nat.lt_of_lt_of_le hlt k.size, fun j hj i v hv => ?_⟩
 rw [← hc j hj i v hv]
 exact World.cell?_of_block hb
theorem evs_lt {w : World} {v : Value} {l : List Ev} (h : Evs w v l) {j : Nat} (hj : v.ownBlock = some j) (hl : l ≠ []) : j < w.heap.size := by
 obtain ⟨ao, L, cap, e, h1, h2, h3, h4⟩ := h
 obtain ⟨b, o, e2, hlt, hc⟩ := h4 (List.length_pos_iff.2 hl)
 subst e2
 subst e
 simp [Value.ownBlock] at hj
 omega
theorem sd_new (W : World) (s : St) : (SD 65 (.pointer (some ⟨W.heap.size, 0, none⟩)) (.agg (stC s).toArray)).run Tryz.prog (W.alloc (.cells (stC zeroS).toArray 65)) = .ok () ((W.alloc (.cells (stC zeroS).toArray 65)).setRow W.heap.size (stC s).toArray) :=
 sd_row (At.new W _ _) rfl rfl (Gm.stC_one s)
theorem new_st (W : World) (s : St) (W' : World) (hW : (W.alloc (.cells (stC zeroS).toArray 65)).setRow W.heap.size (stC s).toArray = W') : Below W.heap.size W W' ∧ At W' W.heap.size (stC s).toArray 65 := by
 subst hW
 exact ⟨Gm.below_row (bal (br W) _) (Nat.le_refl _) _, Gm.at_row (At.new W _ _) _⟩
attribute [local go_sem ↓] fold_ld1 fold_sd1 fold_al1
theorem idx0 (x y : Addr) (w : World) : (Instr.index 83 (.agg #[.pointer (some x), .pointer (some y)]) (.int .i64 0)).run Tryz.prog w = .ok (.pointer (some x)) w := by kernel_rfl
theorem idx1 (x y : Addr) (w : World) : (Instr.index 83 (.agg #[.pointer (some x), .pointer (some y)]) (.int .i64 1)).run Tryz.prog w = .ok (.pointer (some y)) w := by kernel_rfl
attribute [local go_sem] alloc_st sd_new idx0 idx1

/-- the feeds, the first k of them taken. -/
def mkF (m : Nat → FD) (f : Int) (k : Nat) : Nat → FD := fun t => if t < k then takeM (m t) f else m t
theorem mkF_zero (m : Nat → FD) (f : Int) : mkF m f 0 = m := by funext t; simp [mkF]
theorem mkF_succ (m : Nat → FD) (f : Int) (k : Nat) : up (mkF m f k) k (takeM (mkF m f k k) f) = mkF m f (k + 1) := by
 funext t
 unfold up mkF
 by_cases h : t = k
 · subst h; simp
 · rw [if_neg h]
   by_cases h2 : t < k
   · rw [if_pos h2, if_pos (by omega)]
   · rw [if_neg h2, if_neg (by omega)]
/-- what was taken so far. -/
def xv (m : Nat → FD) (f : Int) (k t : Nat) : Int := if t < k then takeV (m t) f else 0

section
variable {a : World} {G : Nat → Prop} {W W' : World} {n₀ b : Nat} {bf : Nat → Nat} {FF : Nat → Nat → Prop} {ao : Option Addr} {cap : Nat} {bs d wi me : Nat} {m : Nat → FD} {cur : Nat} {fi : Int} {l : List (Int × St)}
theorem CP.congr (h : CP W n₀ b bf FF bs ao cap d wi me m cur fi l) {m' : Nat → FD} (e : ∀ t, t < 2 → m' t = m t) : CP W n₀ b bf FF bs ao cap d wi me m' cur fi l :=
 ⟨h.block, h.ge, fun t ht => by rw [e t ht]; exact h.fed t ht, h.win, h.ap⟩
theorem Cz.congr (h : Cz a G W n₀ b bf bs d wi me m cur fi l) {m' : Nat → FD} (e : ∀ t, t < 2 → m' t = m t) : Cz a G W n₀ b bf bs d wi me m' cur fi l := by
 obtain ⟨FF, ao, cap, h1, h2, h3⟩ := h
 exact ⟨FF, ao, cap, h1.congr e, h2, h3⟩

/-- play's memory: the core, its answer, the state, the inputs so far. -/
structure Pz (W0 : World) (G : Nat → Prop) (W : World) (n₀ b : Nat) (bf : Nat → Nat) (bs d wi me : Nat) (m : Nat → FD) (cur : Nat) (fi : Int) (l : List (Int × St)) (B5 B7 : Nat) (s : St) (x0 x1 : Int) : Prop where
 z : Cz W0 G W n₀ b bf bs d wi me m cur fi l
 pg : At W W0.heap.size #[.int .i64 0, .slice none 0 0] 51
 st : At W B5 (stC s).toArray 65
 inp : At W B7 #[.int .u8 x0, .int .u8 x1] 69
 ge : W0.heap.size < B5 ∧ B5 < B7
theorem Pz.below {W0 : World} {B5 B7 : Nat} {s : St} {x0 x1 : Int} (h : Pz W0 G W n₀ b bf bs d wi me m cur fi l B5 B7 s x0 x1) (g : Below W.heap.size W W') : Pz W0 G W' n₀ b bf bs d wi me m cur fi l B5 B7 s x0 x1 :=
 ⟨h.z.below g, h.pg.below g, h.st.below g, h.inp.below g, h.ge⟩

theorem at_cell {w : World} {B : Nat} {cs : List Value} {T : TypeId} (h : At w B cs.toArray T) (j : Nat) (v : Value) : At (w.setCell ⟨B, j, none⟩ v) B (cs.set j v).toArray T := by
 have := heap_setCell_same w B j cs.toArray T v h
 rw [List.setIfInBounds_toArray] at this
 exact this
theorem at_cell_far {w : World} {B B' : Nat} {cs : Array Value} {T : TypeId} (h : At w B cs T) (hn : B ≠ B') (j : Nat) (v : Value) : At (w.setCell ⟨B', j, none⟩ v) B cs T := by
 unfold At at h ⊢
 rw [(keeps_cell w B' j v).block B (Array.getElem?_eq_some_iff.1 h).1 (fun e => hn e)]
 exact h
theorem Pz.put0 {W0 : World} {m0 : Nat → FD} {f : Int} {B5 B7 : Nat} {s : St} (h : Pz W0 G W n₀ b bf bs d wi me m cur fi l B5 B7 s (xv m0 f 0 0) (xv m0 f 0 1)) :
 Pz W0 G (W.setCell ⟨B7, 0, none⟩ (.int .u8 (takeV (m0 0) f))) n₀ b bf bs d wi me m cur fi l B5 B7 s (xv m0 f 1 0) (xv m0 f 1 1) := by
 have hg := h.ge
 exact ⟨h.z.own h.inp (by decide) (by omega) (keeps_cell _ _ _ _), at_cell_far h.pg (by omega) _ _, at_cell_far h.st (by omega) _ _, at_cell (cs := [_, _]) h.inp 0 _, hg⟩
theorem Pz.put1 {W0 : World} {m0 : Nat → FD} {f : Int} {B5 B7 : Nat} {s : St} (h : Pz W0 G W n₀ b bf bs d wi me m cur fi l B5 B7 s (xv m0 f 1 0) (xv m0 f 1 1)) :
 Pz W0 G (W.setCell ⟨B7, 1, none⟩ (.int .u8 (takeV (m0 1) f))) n₀ b bf bs d wi me m cur fi l B5 B7 s (xv m0 f 2 0) (xv m0 f 2 1) := by
 have hg := h.ge
 exact ⟨h.z.own h.inp (by decide) (by omega) (keeps_cell _ _ _ _), at_cell_far h.pg (by omega) _ _, at_cell_far h.st (by omega) _ _, at_cell (cs := [_, _]) h.inp 1 _, hg⟩

set_option maxHeartbeats 4000000 in
theorem play_c {A k : Nat} {S : List St} {s : St} (h : CP W n₀ b bf FF bs ao cap d wi me m cur A (fr A S)) (hS : S.length ≤ 4096) (h1 : A ≤ k) (hs : S[k - A]? = some s) (h3 : k + 1 ≤ 1073741824) (h4 : k + 1 < A + 65)
 (hms : Ms 2 s) (hfr : s.fr = k) (hok : ∀ t, t < 2 → Fd.Ok (m t) ∧ (m t).first ≤ k) (htab : Tab W) (hn2 : 2 ≤ n₀) :
 Calls Tryz.prog 54 #[.pointer (some ⟨b, 0, none⟩), .int .i64 k] W fun e w' => ∃ v, e = .returned (.agg #[.int .i64 k, v]) ∧ Evs w' v (stepP s (Fd.tk (m 0) k) (Fd.tk (m 1) k)).2 ∧ pageI k (stepP s (Fd.tk (m 0) k) (Fd.tk (m 1) k)).2 ∧
  (∃ FF' ao' cap', CP w' n₀ b bf FF' bs ao' cap' d wi me (fun t => takeM (m t) k) cur A (fr A (putAt S (k + 1 - A) (stepP s (Fd.tk (m 0) k) (Fd.tk (m 1) k)).1)) ∧ (∀ i, GG b FF' bs ao' i → GG b FF bs ao i ∨ W.heap.size ≤ i) ∧ Keeps (GG b FF bs ao) W w' ∧
   (∀ j, v.ownBlock = some j → (stepP s (Fd.tk (m 0) k) (Fd.tk (m 1) k)).2 ≠ [] → W.heap.size ≤ j ∧ ¬ GG b FF' bs ao' j)) ∧ Kd W w' := by
 have hkl := (List.getElem?_eq_some_iff.1 hs).1
 have htk : ∀ t, t < 2 → takeV (m t) k = Fd.tk (m t) k := fun t ht => by
  unfold Fd.takeV
  rw [if_pos ⟨by have := (hok t ht).2; omega, by omega⟩]
 have htv : ∀ t, t < 2 → 0 ≤ Fd.tk (m t) k ∧ Fd.tk (m t) k ≤ 63 := fun t ht => Fd.tk_may (hok t ht).1 k
 obtain ⟨R, hR⟩ : ∃ R, Hid (stepP s (Fd.tk (m 0) k) (Fd.tk (m 1) k) = R) := ⟨_, hid rfl⟩
 have hStep : Hid (∀ X, Tab X → Calls Tryz.prog 21 #[.agg (stC s).toArray, .agg #[.int .u8 (takeV (m 0) k), .int .u8 (takeV (m 1) k)]] X fun e w' => ∃ v, e = .returned (.tuple #[.agg (stC R.1).toArray, v, .int .i64 0]) ∧ Evs w' v R.2 ∧ Below X.heap.size X w' ∧ pageI k R.2 ∧ ∀ k, v.ownBlock = some k → X.heap.size ≤ k) := hid (fun X hX => by
  rw [htk 0 (by omega), htk 1 (by omega), ← hR.out, ← hfr]
  exact Gm.step_c s _ _ X hX (Gm.ms_ty hms) (Gm.ms_right hms) (hfr ▸ htv 0 (by omega)) (hfr ▸ htv 1 (by omega)) (by omega))
 rw [hR.out]
 have hZ := Cz.self h
 have hgl := h.glt
 have HT : Hid (∀ X, Keeps (GG b FF bs ao) W X → Tab X) := hid (fun X kx => htab.below hn2 (kx.below (Nat.le_of_lt (Nat.lt_of_le_of_lt h.ge h.lt)) h.gge))
 have hfs : thingS (fr A S) (k : Int) = s := thing_fr h1 hs
 have hG0 := hid (fun (X : World) (bx : Below W.heap.size W X) => get_z (k : Int) (fr_rising A S) (by rw [fr_len]; exact hS) (hZ.below bx))
 have HZ := hid hZ
 have HAp : Hid (∀ B cs T, At W B cs T → Od T → ¬ GG b FF bs ao B) := hid (fun B cs T hB hT => h.apart hB hT)
 have HP : Hid (At (W.alloc (.cells #[.int .i64 0, .slice none 0 0] 51)) W.heap.size #[.int .i64 0, .slice none 0 0] 51) := hid (At.new W _ _)
 have HB := hid (bal (br W) (.cells #[.int .i64 0, .slice none 0 0] 51))
 clear h hZ hs hok htk htv
 go_enter Tryz.func54, Tryz.ntmps54
 go_upto_region 1 with fail
 generalize hw : World.alloc _ _ = w0
 have HP0 : Hid (At w0 W.heap.size #[.int .i64 0, .slice none 0 0] 51) := hid (by rw [← hw]; exact HP.out)
 have HB0 : Hid (Below W.heap.size W w0) := hid (by rw [← hw]; exact HB.out)
 clear hw HP HB
 have HZ0 := hid (HZ.out.below HB0.out)
 obtain ⟨_, _, _, c3, c4, c5, c6⟩ := HZ0.out.cells
 go_upto_region 2 with (go_at_call 67; ((with_reducible refine (hG0.out _ HB0.out).mono ?_); rintro e w1 ⟨rfl, hB1⟩; rw [hfs]))
 have HB1 := hid (bt HB0.out hB1)
 have HZ1 := hid (HZ.out.below HB1.out)
 have HP1 := hid (HP0.out.below hB1)
 generalize hw : World.setRow _ _ _ = w2
 obtain ⟨hB2, hs2⟩ := new_st w1 s w2 hw
 have hsz1 := HB1.out.size
 have hlt1 : W.heap.size < w1.heap.size := HP1.out.lt
 have H2 : Hid (Pz W (GG b FF bs ao) w2 n₀ b bf bs d wi me m cur A (fr A S) w1.heap.size w2.heap.size s 0 0 → True) := hid (fun _ => trivial)
 have HZ2 := hid (HZ1.out.below hB2)
 have HP2 := hid (HP1.out.below hB2)
 have HS2 := hid hs2
 have hlt2 : w1.heap.size < w2.heap.size := hs2.lt
 clear hw c3 c4 c5 c6 hB1 hB2 hs2 hG0 HB0 HZ0 HP0 H2
 generalize w1.heap.size = B5 at *
 have HI : Hid (Pz W (GG b FF bs ao) (w2.alloc (.cells #[.int .u8 0, .int .u8 0] 69)) n₀ b bf bs d wi me (mkF m k 0) cur A (fr A S) B5 w2.heap.size s (xv m k 0 0) (xv m k 0 1)) := hid (by
  rw [mkF_zero]
  have g := bal (br w2) (.cells #[.int .u8 0, .int .u8 0] 69)
  exact ⟨HZ2.out.below g, HP2.out.below g, HS2.out.below g, At.new w2 _ _, ⟨hlt1, hlt2⟩⟩)
 go_upto_region 3 with fail
 generalize hw : World.alloc _ _ = w3
 have HI3 : Hid (Pz W (GG b FF bs ao) w3 n₀ b bf bs d wi me (mkF m k 0) cur A (fr A S) B5 w2.heap.size s (xv m k 0 0) (xv m k 0 1)) := hid (by rw [← hw]; exact HI.out)
 clear hw HI HZ2 HP2 HS2
 generalize w2.heap.size = B7 at *
 obtain ⟨_, _, _, c3, c4, c5, c6⟩ := HI3.out.z.cells
 go_wp2_with fail
 go_loopg [26] 2 (fun gk s26 wr => ∃ q : Nat, gk + q = 2 ∧ s26 = .int .i64 q ∧ Pz W (GG b FF bs ao) wr n₀ b bf bs d wi me (mkF m k q) cur A (fr A S) B5 B7 s (xv m k q 0) (xv m k q 1))
 case atStart => exact ⟨0, rfl, rfl, HI3.out⟩
 case round =>
  obtain ⟨q, hq, rfl, hI⟩ := hrel
  clear c3 c4 c5 c6 HI3
  have HIr := hid hI
  clear hI
  by_cases hq2 : q < 2
  · have hT : ∀ t, t < 2 → t = q → Calls Tryz.prog 88 #[.pointer (some ⟨bf t, 0, none⟩), .int .i64 k] wr fun e w' => e = .returned (.tuple #[.int .u8 (takeV (m t) k), .bool (takeB (m t) k && decide (isTk (m t) k))]) ∧ Pz W (GG b FF bs ao) w' n₀ b bf bs d wi me (mkF m k (q + 1)) cur A (fr A S) B5 B7 s (xv m k q 0) (xv m k q 1) := by
     rintro t ht rfl
     have e : mkF m k t t = m t := by unfold mkF; rw [if_neg (by omega)]
     have := take_z ht (k : Int) HIr.out.z
     rw [mkF_succ, e] at this
     refine this.mono ?_
     rintro e' w' ⟨rfl, z, kd⟩
     exact ⟨rfl, z, kd _ _ _ HIr.out.pg (by decide), kd _ _ _ HIr.out.st (by decide), kd _ _ _ HIr.out.inp (by decide), HIr.out.ge⟩
    have HTk := hid hT
    clear hT
    rcases (show q = 0 ∨ q = 1 by omega) with rfl | rfl
    · have HT0 := hid (HTk.out 0 (by omega) rfl)
      clear HTk
      go_upto_region 7 with (go_at_call 88; ((with_reducible refine HT0.out.mono ?_); rintro e w5 ⟨rfl, hI5⟩; obtain ⟨i0, i1⟩ := hI5.inp.two; have f0 := hI5.inp.frozen 0))
      have HI6 : Hid (Pz W (GG b FF bs ao) (w5.setCell ⟨B7, 0, none⟩ (.int .u8 (takeV (m 0) k))) n₀ b bf bs d wi me (mkF m k 1) cur A (fr A S) B5 B7 s (xv m k 1 0) (xv m k 1 1)) := hid (hI5.put0)
      go_wp2_with fail
      go_roundg 1
      case measure => omega
      case rel => exact ⟨1, rfl, rfl, HI6.out⟩
    · have HT1 := hid (HTk.out 1 (by omega) rfl)
      clear HTk
      go_upto_region 7 with (go_at_call 88; ((with_reducible refine HT1.out.mono ?_); rintro e w5 ⟨rfl, hI5⟩; obtain ⟨i0, i1⟩ := hI5.inp.two; have f1 := hI5.inp.frozen 1))
      have HI6 : Hid (Pz W (GG b FF bs ao) (w5.setCell ⟨B7, 1, none⟩ (.int .u8 (takeV (m 1) k))) n₀ b bf bs d wi me (mkF m k 2) cur A (fr A S) B5 B7 s (xv m k 2 0) (xv m k 2 1)) := hid (hI5.put1)
      go_wp2_with fail
      go_roundg 0
      case measure => omega
      case rel => exact ⟨2, rfl, rfl, HI6.out⟩
  · obtain rfl : q = 2 := by omega
    obtain ⟨i0, i1⟩ := HIr.out.inp.two
    have hld : (LD 65 (.pointer (some ⟨B5, 0, none⟩))).run Tryz.prog wr = .ok (.agg (stC s).toArray) wr := ld_row HIr.out.st rfl
    have hTr : Tab wr := HT.out _ HIr.out.z.keeps
    have e0 : xv m k 2 0 = takeV (m 0) k := rfl
    have e1 : xv m k 2 1 = takeV (m 1) k := rfl
    rw [e0] at i0
    rw [e1] at i1
    have HStep := hid (hStep.out wr hTr)
    clear hStep hTr e0 e1
    go_upto_region 9 with (go_at_call 21; ((with_reducible refine HStep.out.mono ?_); rintro e w6 ⟨v, rfl, hev, hB6, hpg, hown⟩))
    generalize hw : World.setRow _ _ _ = w7
    obtain ⟨hB7, hs7⟩ := new_st w6 R.1 w7 hw
    obtain ⟨FFr, aor, capr, cpr, nearr, kpr⟩ := HIr.out.z.congr (m' := fun t => takeM (m t) (k : Int)) (fun t ht => by unfold mkF; rw [if_pos ht])
    have g67 : Below w6.heap.size w6 w7.drew := bd1 hB7
    have g7 : Below wr.heap.size wr w7.drew := bt hB6 g67
    have cp7 := cpr.old g7
    have hpg7 := HIr.out.pg.below g7
    have hs7d := hs7.below (bd1 (br w7))
    have hlt7 : w6.heap.size < w7.drew.heap.size := hs7d.lt
    have hev7 := Go.Proofs.YtfclnhmijjlhdaaGreatDoor.Ev.Sl.below hev g67
    have hszr := kpr.size
    have hszr6 := hB6.size
    have HPut := wput_z (k := k + 1) (by omega) (by omega) h3 h4 hS R.1 cp7
    rw [show ((k + 1 : Nat) : Int) = (k : Int) + 1 by omega] at HPut
    have HPt := hid HPut
    have hwr : IntKind.i64.wrap ((k : Int) + 1) = (k : Int) + 1 := IntWalk.i64_in _ (by omega)
    have c5 : w7.drew.cell? ⟨b, 5, none⟩ = some (.pointer (some ⟨bs, 0, none⟩)) := cp7.cells.2.2.2.2.2.1
    have hld7 : (LD 65 (.pointer (some ⟨w6.heap.size, 0, none⟩))).run Tryz.prog w7.drew = .ok (.agg (stC R.1).toArray) w7.drew := ld_row hs7d rfl
    have HS7 := hid hs7d
    have HPG7 := hid hpg7
    have HEV7 := hid hev7
    have HOWN := hid hown
    have HLTV := hid (fun j hj hl => evs_lt (j := j) hev hj hl)
    obtain ⟨av, Lv, capv, ev, _⟩ := id hev
    have HNR := hid nearr
    have HKR := hid kpr
    have HG7 := hid g7
    have HLR := hid cpr.glt
    have HLT0 := hid HIr.out.pg.lt
    clear hw hB7 hs7 cpr nearr kpr g67 g7 cp7 hpg7 hs7d hev7 HPut hev hown hld i0 i1 HStep HIr hB6
    generalize w6.heap.size = B10 at *
    go_region_held3 (fun X => X.cell? ⟨b, 5, none⟩ = some (.pointer (some ⟨bs, 0, none⟩)) ∧ (LD 65 (.pointer (some ⟨B10, 0, none⟩))).run Tryz.prog X = .ok (.agg (stC R.1).toArray) X)
     (first | go_keep | exact ⟨c58, hld8⟩)
     (first | (go_at_call 32; ((with_reducible refine HPt.out.mono ?_); rintro e w8 ⟨rfl, z8, kd8⟩; have c58 : w8.cell? ⟨b, 5, none⟩ = some (.pointer (some ⟨bs, 0, none⟩)) := z8.cells.2.2.2.2.2.1; have hld8 : (LD 65 (.pointer (some ⟨B10, 0, none⟩))).run Tryz.prog w8 = .ok (.agg (stC R.1).toArray) w8 := ld_row (kd8 _ _ _ HS7.out (by decide)) rfl)))
    have hpg8 := kd8 _ _ _ HPG7.out (by decide)
    obtain ⟨p0, p1⟩ := hpg8.two
    have f0 := hpg8.frozen 0
    have f1 := hpg8.frozen 1
    have HPG8 := hid hpg8
    subst ev
    clear hpg8 c5 c58 hld7 hld8
    go_wp2_with fail
    have hp9 := at_cell (cs := [.int .i64 k, .slice none 0 0]) (at_cell (cs := [.int .i64 0, .slice none 0 0]) HPG8.out 0 (.int .i64 k)) 1 (.slice av Lv capv)
    refine bodyPost_ret (results_cell_row rfl _ _ W.heap.size 51 #[.int .i64 k, .slice av Lv capv] (0, 0) _ rfl hp9 Tryz.underlying51 rfl (by kernel_rfl)) rfl ?_
    generalize hw9 : World.setCell _ _ _ = w9
    have k9 : Keeps (fun i => i = W.heap.size) w8 w9 := by
     rw [← hw9]
     exact (keeps_cell _ _ _ _).trans (keeps_cell _ _ _ _) (fun _ _ e => e)
    obtain ⟨FF8, ao8, cap8, cp8, near8, kp8⟩ := z8
    have hap8 := cp8.apart HPG8.out (by decide)
    have hown9 : ∀ j, (Value.slice av Lv capv).ownBlock = some j → R.2 ≠ [] → wr.heap.size ≤ j ∧ j < w7.drew.heap.size := fun j hj hl => ⟨HOWN.out j hj, by have := HLTV.out j hj hl; omega⟩
    have hW0 := HLT0.out
    have hnG : ∀ j, (Value.slice av Lv capv).ownBlock = some j → R.2 ≠ [] → ¬ GG b FFr bs aor j := fun j hj hl hg => by
     have := HLR.out j hg
     have := (hown9 j hj hl).1
     omega
    have hsz7 := HG7.out.size
    have hk8 : Keeps (GG b FF bs ao) W w9 := by
     refine keeps_mono (keeps_mono (keeps_mono HKR.out (Keeps.ofOld HG7.out (fun _ => False)) (fun _ e => e.elim)) kp8 (fun i hi => HNR.out i hi)) k9 (fun i e => .inr (by omega))
    refine ⟨_, rfl, ?_, hpg, ⟨FF8, ao8, cap8, cp8.keeps k9 (fun i hi e => hap8 (e ▸ hi)), ?_, hk8, ?_⟩, kd_keeps hk8 (fun B cs T hB hT => HAp.out B cs T hB hT)⟩
    · exact evs_keeps (evs_keeps HEV7.out kp8 hnG) k9 (fun j hj hl e => by have := (hown9 j hj hl).1; omega)
    · intro i hi
      rcases near8 i hi with h5 | h5
      · exact HNR.out i h5
      · exact .inr (by omega)
    · intro j hj hl
      refine ⟨by have := (hown9 j hj hl).1; omega, fun hg => ?_⟩
      rcases near8 j hg with h5 | h5
      · exact hnG j hj hl h5
      · have := (hown9 j hj hl).2; omega
end
end Go.Proofs.YtfclnhmijjlhdaaGreatDoor.Cr

namespace Go.Proofs.YtfclnhmijjlhdaaGreatDoor.Cr
open Go.RowKit Go.Proofs.YtfclnhmijjlhdaaGreatDoor.Rg
open Go.Proofs.YtfclnhmijjlhdaaGreatDoor.Fd (Fed takeV takeB takeM isTk putE putM trimN trimM)
open Go.Proofs.YtfclnhmijjlhdaaGreatDoor.Gm (St stC zeroS stepP Tab tyS rightS Ms)
open Go.Proofs.YtfclnhmijjlhdaaGreatDoor.Ev (Ev At bt br bal bd1 bdn Evs pageI Row)
open Go.Proofs.YtfclnhmijjlhdaaGreatDoor.Sw (Rising lo lo_le lo_lt hasF hasF_some hasF_none thingS putL own1 fold_ld1 fold_sd1 fold_al1 alloc_st LD SD AL ld_row sd_row)
open Go.Proofs.YtfclnhmijjlhdaaGreatDoor.Co (Co now common full other setN putAt putAt_len putAt_get play)
set_option linter.unusedVariables false
set_option maxRecDepth 100000
attribute [local go_sem ↓] fold_ld1 fold_sd1 fold_al1
attribute [local go_sem] alloc_st sd_new idx0 idx1

section
variable {a : World} {G : Nat → Prop} {W W' : World} {n₀ b : Nat} {bf : Nat → Nat} {FF : Nat → Nat → Prop} {ao : Option Addr} {cap : Nat} {bs d wi me : Nat} {m : Nat → FD} {cur : Nat} {fi : Int} {l : List (Int × St)}
theorem state_z (i : Int) (hr : Rising l) (hl : l.length ≤ 4096) (h : Cz a G W n₀ b bf bs d wi me m cur fi l) :
 Calls Tryz.prog 23 #[.pointer (some ⟨b, 0, none⟩), .int .i64 i] W fun e w' => e = .returned (.tuple #[.agg (stC (thingS l i)).toArray, .bool (hasF l i)]) ∧ Below W.heap.size W w' := by
 have HN := hid (At.new W (stC zeroS).toArray 65)
 have HB := hid (bal (br W) (.cells (stC zeroS).toArray 65))
 have HG := hid (fun (X : World) (bx : Below W.heap.size W X) => get_z i hr hl (h.below bx))
 have HZ := hid h
 clear h
 generalize hasF l i = hb at *
 go_enter Tryz.func23, Tryz.ntmps23
 go_upto_region 1 with fail
 generalize hw : World.alloc _ _ = w0
 have HN0 : Hid (At w0 W.heap.size (stC zeroS).toArray 65) := hid (by rw [← hw]; exact HN.out)
 have HB0 : Hid (Below W.heap.size W w0) := hid (by rw [← hw]; exact HB.out)
 clear hw HN HB
 obtain ⟨_, _, _, _, _, c5, _⟩ := (HZ.out.below HB0.out).cells
 go_wp2_with (go_at_call 67; ((with_reducible refine (HG.out _ HB0.out).mono ?_); rintro e w1 ⟨rfl, hB1⟩; have hN1 := HN0.out.below hB1; have hsd : (SD 65 (.pointer (some ⟨W.heap.size, 0, none⟩)) (.agg (stC (thingS l i)).toArray)).run Tryz.prog w1 = .ok () (w1.setRow W.heap.size (stC (thingS l i)).toArray) := sd_row hN1 rfl rfl (Gm.stC_one _); have HN1 := hid hN1; clear hN1))
 refine bodyPost_ret (Sw.results_st rfl _ _ W.heap.size 65 (stC (thingS l i)).toArray (0, 0) _ rfl (Gm.at_row HN1.out _) Tryz.underlying65 rfl (by kernel_rfl)) rfl ?_
 exact ⟨rfl, Gm.below_row (bt HB0.out hB1) (Nat.le_refl _) _⟩
theorem kept_z (hl : l.length ≤ 4096) (h : Cz a G W n₀ b bf bs d wi me m cur fi l) :
 Calls Tryz.prog 25 #[.pointer (some ⟨b, 0, none⟩)] W fun e w' => e = .returned (.int .i64 (l.length : Int)) ∧ Below W.heap.size W w' := by
 obtain ⟨_, _, _, _, _, c5, _⟩ := h.cells
 obtain ⟨ao, cap, hw⟩ := h.win
 have HF := hid (Sw.frames_c n₀ bs 65 cap fi ao l W hw hl)
 clear h hw
 go_enter Tryz.func25, Tryz.ntmps25
 go_wp2_with (go_at_call 68; ((with_reducible refine HF.out.mono ?_); rintro e w1 ⟨ao', cap', rfl, hB1⟩))
 go_ret
 exact ⟨rfl, hB1⟩
theorem hear_z (f x : Int) (hx : 0 ≤ x) (hm : me < 2) (h : Cz a G W n₀ b bf bs d wi me m cur fi l) :
 Calls Tryz.prog 15 #[.pointer (some ⟨b, 0, none⟩), .int .i64 f, .int .u8 x] W fun e w' => e = .returned (.int .i64 (putE (m (1 - me)) f x)) ∧ Cz a G w' n₀ b bf bs d wi me (up m (1 - me) (putM (m (1 - me)) f x)) cur fi l := by
 have HT := hid (theirs_c h hm)
 have HP := hid (fun q => fput_z (t := 1 - me) (by omega) f x hx (h.below (bdn (br W) q)))
 clear h
 go_enter Tryz.func15, Tryz.ntmps15
 go_wp2_with (first
  | (go_at_call 52; ((with_reducible refine HT.out.mono ?_); rintro e w' ⟨rfl, q, rfl⟩))
  | (go_at_call 34; ((with_reducible refine (HP.out q).mono ?_); rintro e w2 ⟨rfl, z2, _⟩)))
 go_ret
 exact ⟨rfl, z2⟩
/-- what Offer answers, and leaves of the feeds. -/
def ofE (m : Nat → FD) (d wi me cur : Nat) (x : Int) : Int := if cm m + wi ≤ cur then 9 else if cur + d < (m me).L.length then 7 else putE (m me) ((m me).L.length : Int) x
def ofM (m : Nat → FD) (d wi me cur : Nat) (x : Int) : Nat → FD := if ofE m d wi me cur x = 0 then up m me (putM (m me) ((m me).L.length : Int) x) else m
theorem up_id {α : Type} (f : Nat → α) (t : Nat) : up f t (f t) = f := by
 funext j
 unfold up
 split
 · rename_i h; rw [h]
 · rfl
theorem offer_z (x : Int) (hx : 0 ≤ x) (hm : me < 2) (hd : d ≤ 8) (hw : wi ≤ 16) (hl : ∀ t, t < 2 → (m t).L.length ≤ 1073741825) (hc : cur ≤ 1073741825) (h : Cz a G W n₀ b bf bs d wi me m cur fi l) :
 Calls Tryz.prog 14 #[.pointer (some ⟨b, 0, none⟩), .int .u8 x] W fun e w' => e = .returned (.tuple #[.int .i64 (if ofE m d wi me cur x = 0 then ((m me).L.length : Int) else 0), .int .i64 (ofE m d wi me cur x)]) ∧ Cz a G w' n₀ b bf bs d wi me (ofM m d wi me cur x) cur fi l := by
 have hcm : cm m ≤ 1073741825 := by unfold cm; have := hl 0 (by omega); omega
 have hlm := hl me hm
 have HF := hid (far_c h hm hcm hw)
 have HO := hid (fun q => ours_c (h.below (bdn (br W) q)) hm)
 have HM := hid (fun q => mine_c (h.below (bdn (br W) q)) hm)
 have HP := hid (fun q => fput_z hm ((m me).L.length : Int) x hx (h.below (bdn (br W) q)))
 have HZ := hid h
 obtain ⟨c0, _, _, _, _, _, c6⟩ := h.cells
 clear h hl
 by_cases h1 : cm m + wi ≤ cur
 · have e1 : ofE m d wi me cur x = 9 := by unfold ofE; rw [if_pos h1]
   have e2 : ofM m d wi me cur x = m := by unfold ofM; rw [e1, if_neg (by decide)]
   rw [e1, e2, if_neg (by decide)]
   rw [show decide (cm m + wi ≤ cur) = true by simpa using h1] at HF
   clear h1 e1 e2 c0 c6
   go_enter Tryz.func14, Tryz.ntmps14
   go_wp2_with (go_at_call 50; ((with_reducible refine HF.out.mono ?_); rintro e w' ⟨rfl, q, rfl⟩))
   go_ret2
   exact ⟨rfl, HZ.out.below (bdn (br W) q)⟩
 · rw [show decide (cm m + wi ≤ cur) = false by simpa using h1] at HF
   have hwr : IntKind.i64.wrap ((cur : Int) + (d : Int)) = (cur : Int) + (d : Int) := IntWalk.i64_in _ (by omega)
   by_cases h2 : cur + d < (m me).L.length
   · have e1 : ofE m d wi me cur x = 7 := by unfold ofE; rw [if_neg h1, if_pos h2]
     have e2 : ofM m d wi me cur x = m := by unfold ofM; rw [e1, if_neg (by decide)]
     rw [e1, e2, if_neg (by decide)]
     have d2 : decide ((cur : Int) + (d : Int) < ((m me).L.length : Int)) = true := by rw [decide_eq_true_iff]; omega
     clear h1 h2 e1 e2
     go_enter Tryz.func14, Tryz.ntmps14
     go_wp2_with (first
      | (go_at_call 50; ((with_reducible refine HF.out.mono ?_); rintro e w' ⟨rfl, q, rfl⟩))
      | (go_at_call 29; ((with_reducible refine (HO.out q).mono ?_); rintro e w' ⟨rfl, q2, rfl⟩)))
     go_quiet (fail)
     go_wp2_with fail
     go_ret2
     exact ⟨rfl, HZ.out.below (bdn (bdn (br W) _) _)⟩
   · have d2 : decide ((cur : Int) + (d : Int) < ((m me).L.length : Int)) = false := by rw [decide_eq_false_iff_not]; omega
     obtain ⟨E, hE⟩ : ∃ E, putE (m me) ((m me).L.length : Int) x = E := ⟨_, rfl⟩
     have e1 : ofE m d wi me cur x = E := by unfold ofE; rw [if_neg h1, if_neg h2, hE]
     by_cases h3 : E = 0
     · have e2 : ofM m d wi me cur x = up m me (putM (m me) ((m me).L.length : Int) x) := by unfold ofM; rw [e1, if_pos h3]
       rw [e1, e2, if_pos h3]
       subst h3
       rw [hE] at HP
       clear h1 h2 e1 e2 hE
       go_enter Tryz.func14, Tryz.ntmps14
       go_wp2_with (first
        | (go_at_call 50; ((with_reducible refine HF.out.mono ?_); rintro e w' ⟨rfl, q, rfl⟩))
        | (go_at_call 29; ((with_reducible refine (HO.out q).mono ?_); rintro e w' ⟨rfl, q2, rfl⟩)))
       go_quiet (fail)
       go_wp2_with (first
        | (go_at_call 51; ((with_reducible refine (HM.out _).mono ?_); rintro e w' ⟨rfl, q3, rfl⟩))
        | (go_at_call 34; ((with_reducible refine (HP.out _).mono ?_); rintro e w2 ⟨rfl, z2, _⟩)))
       go_ret2
       exact ⟨rfl, z2⟩
     · have e2 : ofM m d wi me cur x = m := by unfold ofM; rw [e1, if_neg h3]
       have e3 : putM (m me) ((m me).L.length : Int) x = m me := Fd.putM_no (by rw [hE]; exact h3)
       rw [e1, e2, if_neg h3]
       have d3 : (E == 0) = false := by simpa using h3
       rw [hE, e3, up_id] at HP
       clear h1 h2 e1 e2 hE e3
       go_enter Tryz.func14, Tryz.ntmps14
       go_wp2_with (first
        | (go_at_call 50; ((with_reducible refine HF.out.mono ?_); rintro e w' ⟨rfl, q, rfl⟩))
        | (go_at_call 29; ((with_reducible refine (HO.out q).mono ?_); rintro e w' ⟨rfl, q2, rfl⟩)))
       go_quiet (fail)
       go_wp2_with (first
        | (go_at_call 51; ((with_reducible refine (HM.out _).mono ?_); rintro e w' ⟨rfl, q3, rfl⟩))
        | (go_at_call 34; ((with_reducible refine (HP.out _).mono ?_); rintro e w2 ⟨rfl, z2, _⟩)))
       go_ret2
       exact ⟨rfl, z2⟩
/-- the feeds, the first k of them trimmed. -/
def mkT (m : Nat → FD) (f : Int) (k : Nat) : Nat → FD := fun t => if t < k then trimM (m t) f else m t
theorem mkT_zero (m : Nat → FD) (f : Int) : mkT m f 0 = m := by funext t; simp [mkT]
theorem mkT_succ (m : Nat → FD) (f : Int) (k : Nat) : up (mkT m f k) k (trimM (mkT m f k k) f) = mkT m f (k + 1) := by
 funext t
 unfold up mkT
 by_cases h : t = k
 · subst h; simp
 · rw [if_neg h]
   by_cases h2 : t < k
   · rw [if_pos h2, if_pos (by omega)]
   · rw [if_neg h2, if_neg (by omega)]
theorem free_z {A : Nat} {S : List St} (f : Int) (hm : me < 2) (hS : S.length ≤ 4096) (hl : cm m ≤ 1073741825) (hc : cur ≤ 1073741825) (hk : ∀ k, Fd.wrong (m (1 - me)) = some k → k ≤ 1073741825) {F1 : Int} (hF : min f (sV m me cur + 1) = F1) (hF1 : F1 ≤ ((A + S.length : Nat) : Int)) (hF2 : F1 ≤ 1073741824) (h : Cz a G W n₀ b bf bs d wi me m cur A (fr A S)) :
 Calls Tryz.prog 18 #[.pointer (some ⟨b, 0, none⟩), .int .i64 f] W fun e w' => e = .returned (.int .i64 (if F1 < (A : Int) then 0 else F1 - A)) ∧
  Cz a G w' n₀ b bf bs d wi me (fun t => trimM (m t) F1) cur ((if F1 < (A : Int) then A else F1.toNat : Nat) : Int) (if F1 < (A : Int) then fr A S else fr F1.toNat (S.drop (F1.toNat - A))) := by
 have HS := hid (settled_c h hm hl hc hk)
 have hsv : IntKind.i64.wrap (sV m me cur + 1) = sV m me cur + 1 := IntWalk.i64_in _ (by
  unfold sV
  cases hw : Fd.wrong (m (1 - me)) with
  | some k => have := hk k hw; simp only; omega
  | none => simp only; omega)
 have HF := hid hF
 have HZ := hid h
 obtain ⟨R1, hR1⟩ : ∃ R, (if F1 < (A : Int) then 0 else F1 - A) = R := ⟨_, rfl⟩
 obtain ⟨R2, hR2⟩ : ∃ R, (if F1 < (A : Int) then A else F1.toNat : Nat) = R := ⟨_, rfl⟩
 obtain ⟨R3, hR3⟩ : ∃ R, (if F1 < (A : Int) then fr A S else fr F1.toNat (S.drop (F1.toNat - A))) = R := ⟨_, rfl⟩
 rw [hR1, hR2, hR3]
 have H1 := hid hR1
 have H2 := hid hR2
 have H3 := hid hR3
 clear h hF hk hR1 hR2 hR3
 generalize sV m me cur = sv at *
 go_enter Tryz.func18, Tryz.ntmps18
 go_upto_region 4 with (go_at_call 20; ((with_reducible refine HS.out.mono ?_); rintro e w1 ⟨rfl, hB1⟩))
 have HZ1 := hid (HZ.out.below hB1)
 obtain ⟨_, _, _, c3, c4, c5, c6⟩ := HZ1.out.cells
 rw [HF.out]
 have HL := hid (show Cz a G w1 n₀ b bf bs d wi me (mkT m F1 0) cur A (fr A S) by rw [mkT_zero]; exact HZ1.out)
 clear HZ HZ1 HS hB1
 go_wp2_with fail
 go_loopg [19] 2 (fun gk s19 wr => ∃ q : Nat, gk + q = 2 ∧ s19 = .int .i64 q ∧ Cz a G wr n₀ b bf bs d wi me (mkT m F1 q) cur A (fr A S))
 case atStart => exact ⟨0, rfl, rfl, HL.out⟩
 case round =>
  obtain ⟨q, hq, rfl, hI⟩ := hrel
  clear c3 c4 c5 c6 HL
  have HIr := hid hI
  clear hI
  by_cases hq2 : q < 2
  · have hT : ∀ t, t < 2 → t = q → Calls Tryz.prog 57 #[.pointer (some ⟨bf t, 0, none⟩), .int .i64 F1] wr fun e w' => e = .returned (.int .i64 (trimN (mkT m F1 t t) F1)) ∧ Cz a G w' n₀ b bf bs d wi me (mkT m F1 (q + 1)) cur A (fr A S) := by
     rintro t ht rfl
     have := trim_z ht F1 HIr.out
     rw [mkT_succ] at this
     exact this.mono fun e' w' ⟨h1, h2, _⟩ => ⟨h1, h2⟩
    have HTk := hid hT
    clear hT
    rcases (show q = 0 ∨ q = 1 by omega) with rfl | rfl
    · have HT0 := hid (HTk.out 0 (by omega) rfl)
      clear HTk
      go_wp2_with (go_at_call 57; ((with_reducible refine HT0.out.mono ?_); rintro e w5 ⟨rfl, hI5⟩))
      go_roundg 1
      case measure => omega
      case rel => exact ⟨1, rfl, rfl, hI5⟩
    · have HT1 := hid (HTk.out 1 (by omega) rfl)
      clear HTk
      go_wp2_with (go_at_call 57; ((with_reducible refine HT1.out.mono ?_); rintro e w5 ⟨rfl, hI5⟩))
      go_roundg 0
      case measure => omega
      case rel => exact ⟨2, rfl, rfl, hI5⟩
  · obtain rfl : q = 2 := by omega
    have hz : Cz a G wr n₀ b bf bs d wi me (fun t => trimM (m t) F1) cur A (fr A S) := HIr.out.congr (fun t ht => by unfold mkT; rw [if_pos ht])
    obtain ⟨_, _, _, _, _, c5, _⟩ := hz.cells
    by_cases hlt : F1 < (A : Int)
    · have E1 : Hid (0 = R1) := hid (by rw [← H1.out, if_pos hlt])
      have E2 : Hid (A = R2) := hid (by rw [← H2.out, if_pos hlt])
      have E3 : Hid (fr A S = R3) := hid (by rw [← H3.out, if_pos hlt])
      have HM := hid (move_z_no F1 hlt hz)
      have HZe := hid hz
      clear HIr hz hlt
      go_wp2_with (go_at_call 58; ((with_reducible refine HM.out.mono ?_); rintro e w5 ⟨rfl, rfl⟩))
      go_ret
      refine ⟨by rw [← E1.out]; rfl, ?_⟩
      rw [← E2.out, ← E3.out]
      exact HZe.out
    · have E1 : Hid (F1 - A = R1) := hid (by rw [← H1.out, if_neg hlt])
      have E2 : Hid (F1.toNat = R2) := hid (by rw [← H2.out, if_neg hlt])
      have E3 : Hid (fr F1.toNat (S.drop (F1.toNat - A)) = R3) := hid (by rw [← H3.out, if_neg hlt])
      have e1 : ((F1.toNat : Nat) : Int) = F1 := by omega
      have hM := move_z (k := F1.toNat) (by omega) (by omega) (by omega) hS hz
      rw [e1, show ((F1.toNat - A : Nat) : Int) = F1 - A by omega] at hM
      have HM := hid hM
      have Ee := hid e1
      clear HIr hz hlt hM e1
      go_wp2_with (go_at_call 58; ((with_reducible refine HM.out.mono ?_); rintro e w5 ⟨rfl, z5, _⟩))
      go_ret
      refine ⟨by rw [← E1.out]; rfl, ?_⟩
      rw [← E2.out, ← E3.out, Ee.out]
      exact z5
end
end Go.Proofs.YtfclnhmijjlhdaaGreatDoor.Cr
