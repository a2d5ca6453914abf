/- Which states may be (layer 12, game). -/
/- What holds of a player in the midst of a step (layer 12, game). -/
/- What holds of a state in the midst of a step (layer 12, game). -/
/- What holds of a state behind the players' part of a step, and behind the whole step (layer 12, game). -/
/- A state that may be is one in the midst of a step, and one that is behind the round's count may be (layer 12, game). -/
import Derived.Test.YtfclnhmijjlhdaaGreatDoorGmFire
import Derived.Test.YtfclnhmijjlhdaaGreatDoorGmMay
import Derived.Deep.DeepCutAuto
import Derived.Deep.RegionWith
namespace Go.Proofs.YtfclnhmijjlhdaaGreatDoor.Gm
open Go.RowKit Go.Proofs.YtfclnhmijjlhdaaGreatDoor.Fx Go.Proofs.YtfclnhmijjlhdaaGreatDoor.Tg Go.Proofs.YtfclnhmijjlhdaaGreatDoor.Dc
open Go.Proofs.YtfclnhmijjlhdaaGreatDoor.Ev (Ev Ky addR pageI At ecs Pg Evs)
open Go.Proofs.YtfclnhmijjlhdaaGreatDoor.Sh (In32 vec box insideB touchB slI mvP mvV wallI)
set_option linter.unusedVariables false

def freeB (x : Bu) : Bool := decide (x = zeroB) || flyB x
def numsB (s : St) : Bool := inB s.fr 0 1073741824 && (inB s.rd 0 1073741824 && inB s.lf 1 600)
/-- may a state be. -/
def rightS (s : St) : Bool := numsB s && ((playB s.p0 && playB s.p1) && (freeB s.s0 && freeB s.s1 && freeB s.s2 && freeB s.s3 && freeB s.s4 && freeB s.s5))
theorem rightS_yes {s : St} (h1 : numsB s = true) (h2 : ∀ j, j < 2 → playB (plS s j) = true) (h3 : ∀ j, j < 6 → freeB (shS s j) = true) : rightS s = true := by
 have a0 := h2 0 (by decide)
 have a1 := h2 1 (by decide)
 have b0 := h3 0 (by decide)
 have b1 := h3 1 (by decide)
 have b2 := h3 2 (by decide)
 have b3 := h3 3 (by decide)
 have b4 := h3 4 (by decide)
 have b5 := h3 5 (by decide)
 simp only [plS, shS, if_true] at a0 a1 b0 b1 b2 b3 b4 b5
 unfold rightS
 rw [h1, b0, b1, b2, b3, b4, b5]
 simp at a0 a1
 simp [a0, a1]
theorem rightS_num {s : St} (h : numsB s = false) : rightS s = false := by unfold rightS; rw [h]; rfl
theorem rightS_pl {s : St} {j : Nat} (hj : j < 2) (h : playB (plS s j) = false) : rightS s = false := by
 have hh : j = 0 ∨ j = 1 := by omega
 unfold rightS
 rcases hh with rfl | rfl
 · have : playB s.p0 = false := h
   rw [this]; simp
 · have : playB s.p1 = false := h
   rw [this]; simp
theorem rightS_sh {s : St} {j : Nat} (hj : j < 6) (h : freeB (shS s j) = false) : rightS s = false := by
 have hh : j = 0 ∨ j = 1 ∨ j = 2 ∨ j = 3 ∨ j = 4 ∨ j = 5 := by omega
 unfold rightS
 rcases hh with rfl | rfl | rfl | rfl | rfl | rfl <;> (simp only [shS] at h; rw [h]; simp)

def plsC (s : St) : List Value := plC s.p0 ++ plC s.p1
theorem stC_pl (s : St) : ∀ j v, (plsC s)[j]? = some v → ((stC s).toArray)[4 + j]? = some v := by
 intro j v hv
 have hj : j < 20 := (List.getElem?_eq_some_iff.1 hv).1
 have e : stC s = [.int .i64 s.fr, .int .u32 s.di, .int .i64 s.rd, .int .i64 s.lf] ++ (plsC s ++ shC s) := by
  unfold stC shC plsC
  simp only [List.append_assoc]
 rw [List.getElem?_toArray, e, List.getElem?_append_right (by show 4 ≤ 4 + j; omega), show 4 + j - [Value.int .i64 s.fr, .int .u32 s.di, .int .i64 s.rd, .int .i64 s.lf].length = j from by show 4 + j - 4 = j; omega, List.getElem?_append_left (by show j < 20; exact hj)]
 exact hv
theorem stC_sh0 (s : St) : ∀ j v, (shC s)[j]? = some v → ((stC s).toArray)[24 + j]? = some v := by
 intro j v hv
 have hj : j < 36 := (List.getElem?_eq_some_iff.1 hv).1
 have e : stC s = ([.int .i64 s.fr, .int .u32 s.di, .int .i64 s.rd, .int .i64 s.lf] ++ plC s.p0 ++ plC s.p1) ++ shC s := by
  unfold stC shC
  simp only [List.append_assoc]
 rw [List.getElem?_toArray, e, List.getElem?_append_right (by show 24 ≤ 24 + j; omega), show 24 + j - ([Value.int .i64 s.fr, .int .u32 s.di, .int .i64 s.rd, .int .i64 s.lf] ++ plC s.p0 ++ plC s.p1).length = j from by show 24 + j - 24 = j; omega]
 exact hv
theorem index_pl (s : St) (k : Nat) (hk : k < 2) (w : World) : (Instr.index 60 (.agg (plsC s).toArray) (.int .i64 k)).run Tryz.prog w = .ok (plV (plS s k)) w := by
 have a4 := Tryz.isAgg59
 have z4 := Tryz.sizeOf59
 have hu := Tryz.underlying60
 have hh : k = 0 ∨ k = 1 := by omega
 unfold plsC
 rcases hh with rfl | rfl
 all_goals
  simp [Instr.index, run_underlying hu, asIntOf, part, a4, z4, plS, go_sem]
theorem at_st {w : World} {b : Nat} {s : St} {T : TypeId} (h : At w b (stC s).toArray T) : w.cell? ⟨b, 0, none⟩ = some (.int .i64 s.fr) ∧ w.cell? ⟨b, 1, none⟩ = some (.int .u32 s.di) ∧ w.cell? ⟨b, 2, none⟩ = some (.int .i64 s.rd) ∧ w.cell? ⟨b, 3, none⟩ = some (.int .i64 s.lf) := by
 have hc := fun j => cell_of_row w b j _ _ _ h
 refine ⟨?_, ?_, ?_, ?_⟩ <;> (rw [hc]; rfl)

set_option maxRecDepth 100000 in
set_option maxHeartbeats 2000000 in
theorem right_c (s : St) (w : World) :
 Calls Tryz.prog 60 #[.agg (stC s).toArray] w fun e w' => e = .returned (.bool (rightS s)) ∧ Below w.heap.size w w' := by
 have HA := hid (At.new w (stC s).toArray 65)
 have HB := hid (Ev.bal (Ev.br w) (.cells (stC s).toArray 65))
 have HN : Hid (numsB s = (inB s.fr 0 1073741824 && (inB s.rd 0 1073741824 && inB s.lf 1 600))) := hid rfl
 generalize hC : stC s = cs at HA HB
 go_enter Tryz.func60, Tryz.ntmps60
 go_upto_region 1 with fail
 subst hC
 generalize World.alloc w _ = w0 at HA HB ⊢
 obtain ⟨c0, c1, c2, c3⟩ := at_st HA.out
 have hn : (inB s.fr 0 1073741824 = false ∨ (inB s.fr 0 1073741824 = true ∧ inB s.rd 0 1073741824 = false) ∨ (inB s.fr 0 1073741824 = true ∧ inB s.rd 0 1073741824 = true ∧ inB s.lf 1 600 = false)) ∨ (inB s.fr 0 1073741824 = true ∧ inB s.rd 0 1073741824 = true ∧ inB s.lf 1 600 = true) := by
  cases inB s.fr 0 1073741824 <;> cases inB s.rd 0 1073741824 <;> cases inB s.lf 1 600 <;> simp
 rcases hn with hn | ⟨n1, n2, n3⟩
 · have HS : Hid (rightS s = false) := hid (rightS_num (by rw [HN.out]; rcases hn with e | ⟨e, e'⟩ | ⟨e, e', e''⟩ <;> simp_all))
   clear HN
   rcases hn with n1 | ⟨n1, n2⟩ | ⟨n1, n2, n3⟩
   · go_wp2_with (go_at_call 96; ((with_reducible refine (within_c _ _ _ _).mono ?_); rintro e w' ⟨rfl, rfl⟩; rw [n1]))
     go_ret
     exact ⟨by rw [HS.out]; rfl, HB.out⟩
   · go_wp2_with (go_at_call 96; ((with_reducible refine (within_c _ _ _ _).mono ?_); rintro e w' ⟨rfl, rfl⟩; first | rw [n1] | rw [n2]))
     go_ret
     exact ⟨by rw [HS.out]; rfl, HB.out⟩
   · go_wp2_with (go_at_call 96; ((with_reducible refine (within_c _ _ _ _).mono ?_); rintro e w' ⟨rfl, rfl⟩; first | rw [n1] | rw [n2] | rw [n3]))
     go_ret
     exact ⟨by rw [HS.out]; rfl, HB.out⟩
 have HNT : Hid (numsB s = true) := hid (by rw [HN.out, n1, n2, n3]; rfl)
 clear HN
 go_wp2_with (first
  | (go_at_call 96; ((with_reducible refine (within_c _ _ _ _).mono ?_); rintro e w' ⟨rfl, rfl⟩; first | rw [n1] | rw [n2] | rw [n3]))
  | (refine wpList_load_at rfl 60 _ rfl w.heap.size 4 rfl 65 _ (plsC s) (0, 0) _ HA.out Tryz.underlying60 rfl (by kernel_rfl) (stC_pl s) ?_))
 have HIp := fun k hk w => index_pl s k hk w
 generalize (plsC s).toArray = PL at HIp ⊢
 clear n1 n2 n3 c0 c1 c2 c3
 go_loopw [25] (fun i wr => ∃ k : Nat, k ≤ 2 ∧ i = .int .i64 k ∧ Below w0.heap.size w0 wr ∧ Hid (∀ j, j < k → playB (plS s j) = true)) (fun i _ => 2 - (intOf i).toNat)
 case atStart => exact ⟨0, by decide, rfl, Ev.br _, hid (fun j hj => by omega)⟩
 case round =>
  obtain ⟨k, hk, rfl, hg, hr⟩ := hrel
  by_cases hlt : k < 2
  · have hk1 : (k : Int) < 2 := by omega
    have hk0 : (0 : Int) ≤ (k : Int) := by omega
    have HI := fun w => HIp k hlt w
    clear HIp
    cases hP : playB (plS s k)
    · have HS : Hid (rightS s = false) := hid (rightS_pl hlt hP)
      generalize plS s k = p at HI hP
      go_wp2_with (go_at_call 97; ((with_reducible refine (mayplay_c _ _).mono ?_); rintro e w' ⟨rfl, g'⟩; rw [hP]))
      go_ret
      exact ⟨by rw [HS.out]; rfl, Ev.bt HB.out (Ev.bt hg (Ev.bt (Ev.bal (Ev.br _) _) g'))⟩
    · have HR2 := hid (show ∀ j, j < k + 1 → playB (plS s j) = true from fun j hj => by
       rcases Nat.lt_or_eq_of_le (Nat.le_of_lt_succ hj) with e | e
       · exact hr.out j e
       · rw [e]; exact hP)
      generalize plS s k = p at HI hP
      go_wp2_with (go_at_call 97; ((with_reducible refine (mayplay_c _ _).mono ?_); rintro e w' ⟨rfl, g'⟩; rw [hP]))
      go_roundw
      case rel => exact ⟨k + 1, by omega, by go_num, Ev.bt hg (Ev.bt (Ev.bal (Ev.br _) _) g'), HR2⟩
      case measure => simp [intOf]; omega
  · have hk2 : k = 2 := by omega
    subst hk2
    have HA1 := hid (HA.out.below hg)
    have HB1 := hid (Ev.bt HB.out hg)
    have HRP := hr
    clear hr hg HIp
    go_wp2_with (refine wpList_load_at rfl 63 _ rfl w.heap.size 24 rfl 65 _ (shC s) (0, 0) _ HA1.out Tryz.underlying63 rfl (by kernel_rfl) (stC_sh0 s) ?_)
    have HIs := fun k hk w => index_sh s k hk w
    generalize (shC s).toArray = SH at HIs ⊢
    generalize wr = w1 at HA1 HB1 ⊢
    go_loopw [34] (fun i wr => ∃ k : Nat, k ≤ 6 ∧ i = .int .i64 k ∧ Below w1.heap.size w1 wr ∧ Hid (∀ j, j < k → freeB (shS s j) = true)) (fun i _ => 6 - (intOf i).toNat)
    case atStart => exact ⟨0, by decide, rfl, Ev.br _, hid (fun j hj => by omega)⟩
    case round =>
     obtain ⟨k, hk, rfl, hg, hr⟩ := hrel
     by_cases hlt : k < 6
     · have hk1 : (k : Int) < 6 := by omega
       have hk0 : (0 : Int) ≤ (k : Int) := by omega
       have HI := fun w => HIs k hlt w
       clear HIs
       have hF : Hid (freeB (shS s k) = (decide (shS s k = zeroB) || flyB (shS s k))) := hid rfl
       cases hz : decide (shS s k = zeroB)
       · cases hP : flyB (shS s k)
         · have HS : Hid (rightS s = false) := hid (rightS_sh hlt (by rw [hF.out, hz, hP]; rfl))
           generalize shS s k = x at HI hP hz
           clear hF
           go_wp2_with (first
            | (go_at_call 98; ((with_reducible refine (isfree_c _ _).mono ?_); rintro e w2 ⟨rfl, g2⟩; rw [hz]; obtain ⟨c0, c1, c2, c3, c4, c5⟩ := at_bu ((At.new wr (buA x) 62).below g2)))
            | (go_at_call 99; ((with_reducible refine (mayfly_c _ _).mono ?_); rintro e w3 ⟨rfl, g3⟩; rw [hP])))
           go_ret
           exact ⟨by rw [HS.out]; rfl, Ev.bt HB1.out (Ev.bt hg (Ev.bt (Ev.bt (Ev.bal (Ev.br _) _) g2) g3))⟩
         · have HR2 := hid (show ∀ j, j < k + 1 → freeB (shS s j) = true from fun j hj => by
            rcases Nat.lt_or_eq_of_le (Nat.le_of_lt_succ hj) with e | e
            · exact hr.out j e
            · rw [e, hF.out, hP]; simp)
           generalize shS s k = x at HI hP hz
           clear hF
           go_wp2_with (first
            | (go_at_call 98; ((with_reducible refine (isfree_c _ _).mono ?_); rintro e w2 ⟨rfl, g2⟩; rw [hz]; obtain ⟨c0, c1, c2, c3, c4, c5⟩ := at_bu ((At.new wr (buA x) 62).below g2)))
            | (go_at_call 99; ((with_reducible refine (mayfly_c _ _).mono ?_); rintro e w3 ⟨rfl, g3⟩; rw [hP])))
           go_roundw
           case rel => exact ⟨k + 1, by omega, by go_num, Ev.bt hg (Ev.bt (Ev.bt (Ev.bal (Ev.br _) _) g2) g3), HR2⟩
           case measure => simp [intOf]; omega
       · have HR2 := hid (show ∀ j, j < k + 1 → freeB (shS s j) = true from fun j hj => by
          rcases Nat.lt_or_eq_of_le (Nat.le_of_lt_succ hj) with e | e
          · exact hr.out j e
          · rw [e, hF.out, hz]; rfl)
         generalize shS s k = x at HI hz
         clear hF
         go_wp2_with (go_at_call 98; ((with_reducible refine (isfree_c _ _).mono ?_); rintro e w2 ⟨rfl, g2⟩; rw [hz]))
         go_roundw
         case rel => exact ⟨k + 1, by omega, by go_num, Ev.bt hg (Ev.bt (Ev.bal (Ev.br _) _) g2), HR2⟩
         case measure => simp [intOf]; omega
     · have hk6 : k = 6 := by omega
       subst hk6
       have HS : Hid (rightS s = true) := hid (rightS_yes HNT.out HRP.out hr.out)
       go_wp2_with fail
       go_ret
       exact ⟨by rw [HS.out]; rfl, Ev.bt HB1.out hg⟩

end Go.Proofs.YtfclnhmijjlhdaaGreatDoor.Gm

namespace Go.Proofs.YtfclnhmijjlhdaaGreatDoor.Gm
open Go.RowKit Go.Proofs.YtfclnhmijjlhdaaGreatDoor.Fx Go.Proofs.YtfclnhmijjlhdaaGreatDoor.Tg Go.Proofs.YtfclnhmijjlhdaaGreatDoor.Dc
open Go.Proofs.YtfclnhmijjlhdaaGreatDoor.Ev (Ev Ky addR pageI At ecs Pg Evs)
open Go.Proofs.YtfclnhmijjlhdaaGreatDoor.Sh (In32 vec box insideB touchB slI mvP mvV wallI)
set_option linter.unusedVariables false

theorem cool_bd (n m : Int) (h : 0 ≤ n ∧ n ≤ m) : 0 ≤ coolI n ∧ coolI n ≤ m := by
 unfold coolI
 split <;> omega
theorem Mp.cool {p : Pl} (h : Mp p) (a : Int) : Mp (coolP a p) :=
 ⟨h.ax, h.ay, h.vx, h.vy, by show 0 ≤ turnI p.fa a ∧ turnI p.fa a ≤ 65535; unfold turnI; omega, h.hp, cool_bd _ _ h.co, cool_bd _ _ h.wi, h.dn, h.sc, h.up⟩
theorem Mp.brake {p : Pl} (h : Mp p) (a : Int) : Mp (brakeP a p) := by
 unfold brakeP
 split
 · exact ⟨h.ax, h.ay, sat_bd _, sat_bd _, h.fa, h.hp, h.co, h.wi, h.dn, h.sc, h.up⟩
 · exact h
theorem Mp.boost {p : Pl} (h : Mp p) (n : Int) : Mp (boostP n p) := ⟨h.ax, h.ay, sat_bd _, sat_bd _, h.fa, h.hp, h.co, h.wi, h.dn, h.sc, h.up⟩
theorem Mp.thrust {r : R} (h : Mp r.1) (fr e a : Int) : Mp (thrustP fr e a r).1 := by
 unfold thrustP
 split
 · exact h.boost _
 · exact h
theorem Mp.dash {r : R} (h : Mp r.1) (fr e a : Int) : Mp (dashP fr e a r).1 := by
 unfold dashP
 split
 · have := h.boost 65536
   exact ⟨this.ax, this.ay, this.vx, this.vy, this.fa, this.hp, this.co, by show (0 : Int) ≤ 20 ∧ (20 : Int) ≤ 20; decide, this.dn, this.sc, this.up⟩
 · exact h
theorem Mp.drive {r : R} (h : Mp r.1) (fr e a : Int) : Mp (driveP fr e a r).1 := Mp.dash (Mp.thrust (h.brake a) fr e a) fr e a
theorem mvV_bd (p v : Int) (h : In32 v) : In32 (mvV p v (-3932160) 3932160) := by
 unfold mvV
 split
 · exact Sh.back_bd _
 · split
   · exact Sh.back_bd _
   · exact h
theorem Mp.move {r : R} (h : Mp r.1) (fr e : Int) : Mp (moveP fr e r).1 :=
 ⟨mvP_bd _ _, mvP_bd _ _, mvV_bd _ _ (slow_bd _ _ _ (sat_bd _)), mvV_bd _ _ (slow_bd _ _ _ (sat_bd _)), h.fa, h.hp, h.co, h.wi, h.dn, h.sc, h.up⟩

end Go.Proofs.YtfclnhmijjlhdaaGreatDoor.Gm

namespace Go.Proofs.YtfclnhmijjlhdaaGreatDoor.Gm
open Go.RowKit Go.Proofs.YtfclnhmijjlhdaaGreatDoor.Fx Go.Proofs.YtfclnhmijjlhdaaGreatDoor.Tg Go.Proofs.YtfclnhmijjlhdaaGreatDoor.Dc
open Go.Proofs.YtfclnhmijjlhdaaGreatDoor.Ev (Ev Ky addR pageI At ecs Pg Evs)
open Go.Proofs.YtfclnhmijjlhdaaGreatDoor.Sh (In32 vec box insideB touchB slI mvP mvV wallI)
set_option linter.unusedVariables false

/-- a place where a player may be. -/
def boxP (p : Pl) : Prop := (-3932160 ≤ p.ax ∧ p.ax ≤ 3932160) ∧ (-3932160 ≤ p.ay ∧ p.ay ≤ 3932160)
/-- a state in the midst of a step; no score is above m. -/
structure Ms (m : Int) (s : St) : Prop where
 di : 0 ≤ s.di ∧ s.di < 4294967296
 fr : 0 ≤ s.fr ∧ s.fr ≤ 1073741824
 rd : 0 ≤ s.rd ∧ s.rd ≤ 1073741824
 lf : 1 ≤ s.lf ∧ s.lf ≤ 600
 p0 : Mp s.p0
 p1 : Mp s.p1
 b0 : boxP s.p0
 b1 : boxP s.p1
 c0 : s.p0.sc ≤ m
 c1 : s.p1.sc ≤ m
 u0 : s.p0.dn = 0 ∨ s.p0.hp = 0
 u1 : s.p1.dn = 0 ∨ s.p1.hp = 0
 sh : ∀ k, k < 6 → Mb (shS s k) ∧ freeB (shS s k) = true

theorem plS_0 (s : St) : plS s 0 = s.p0 := rfl
theorem plS_1 (s : St) : plS s 1 = s.p1 := rfl
/-- a player is put in. -/
theorem Ms.put {m : Int} {s : St} (h : Ms m s) {t : Nat} (ht : t < 2) {p : Pl} (hp : Mp p) (hb : boxP p) (hc : p.sc ≤ m) (hu : p.dn = 0 ∨ p.hp = 0) : Ms m (setP s t p) := by
 have hsh : ∀ k, k < 6 → shS (setP s t p) k = shS s k := by
  intro k hk
  have hh : k = 0 ∨ k = 1 ∨ k = 2 ∨ k = 3 ∨ k = 4 ∨ k = 5 := by omega
  have ht2 : t = 0 ∨ t = 1 := by omega
  rcases ht2 with rfl | rfl <;> rcases hh with rfl | rfl | rfl | rfl | rfl | rfl <;> rfl
 have ht2 : t = 0 ∨ t = 1 := by omega
 rcases ht2 with rfl | rfl
 · exact ⟨h.di, h.fr, h.rd, h.lf, hp, h.p1, hb, h.b1, hc, h.c1, hu, h.u1, fun k hk => by rw [hsh k hk]; exact h.sh k hk⟩
 · exact ⟨h.di, h.fr, h.rd, h.lf, h.p0, hp, h.b0, hb, h.c0, hc, h.u0, hu, fun k hk => by rw [hsh k hk]; exact h.sh k hk⟩
theorem Ms.pl {m : Int} {s : St} (h : Ms m s) {t : Nat} (ht : t < 2) : Mp (plS s t) ∧ boxP (plS s t) ∧ (plS s t).sc ≤ m ∧ ((plS s t).dn = 0 ∨ (plS s t).hp = 0) := by
 have ht2 : t = 0 ∨ t = 1 := by omega
 rcases ht2 with rfl | rfl
 · exact ⟨h.p0, h.b0, h.c0, h.u0⟩
 · exact ⟨h.p1, h.b1, h.c1, h.u1⟩
/-- a shot is put in. -/
theorem Ms.shot {m : Int} {s : St} (h : Ms m s) {k : Nat} (hk : k < 6) {x : Bu} (hx : Mb x) (hf : freeB x = true) : Ms m (setS s k x) := by
 have hh : k = 0 ∨ k = 1 ∨ k = 2 ∨ k = 3 ∨ k = 4 ∨ k = 5 := by omega
 have hs : ∀ j, j < 6 → Mb (shS (setS s k x) j) ∧ freeB (shS (setS s k x) j) = true := by
  intro j hj
  have hj2 : j = 0 ∨ j = 1 ∨ j = 2 ∨ j = 3 ∨ j = 4 ∨ j = 5 := by omega
  by_cases e : j = k
  · subst e
    rcases hh with rfl | rfl | rfl | rfl | rfl | rfl <;> exact ⟨hx, hf⟩
  · have : shS (setS s k x) j = shS s j := by
     rcases hh with rfl | rfl | rfl | rfl | rfl | rfl <;> rcases hj2 with rfl | rfl | rfl | rfl | rfl | rfl <;> first | rfl | exact absurd rfl e
    rw [this]
    exact h.sh j hj
 rcases hh with rfl | rfl | rfl | rfl | rfl | rfl <;> exact ⟨h.di, h.fr, h.rd, h.lf, h.p0, h.p1, h.b0, h.b1, h.c0, h.c1, h.u0, h.u1, hs⟩

theorem mvP_in (p v : Int) : -3932160 ≤ mvP p v (-3932160) 3932160 ∧ mvP p v (-3932160) 3932160 ≤ 3932160 := by
 unfold mvP
 split
 · decide
 · split
   · decide
   · omega
theorem way_bd (f : Int) : (-262144 ≤ wayX f 262144 ∧ wayX f 262144 ≤ 262144) ∧ (-262144 ≤ wayY f 262144 ∧ wayY f 262144 ≤ 262144) := by
 have h1 := wave_bd (f + 16384)
 have h2 := wave_bd f
 unfold wayX wayY satI
 constructor
 · split
   · omega
   · split <;> omega
 · split
   · omega
   · split <;> omega
theorem zero_ok : Mb zeroB ∧ freeB zeroB = true := ⟨⟨⟨by decide, by decide, by decide, by decide⟩, .inl rfl⟩, by decide⟩
theorem shot_ok {p : Pl} (hp : Mp p) (hb : boxP p) (e : Int) (he : 1 ≤ e ∧ e ≤ 2) : Mb (shotP e p) ∧ freeB (shotP e p) = true := by
 obtain ⟨⟨x1, x2⟩, y1, y2⟩ := way_bd p.fa
 obtain ⟨⟨a1, a2⟩, a3, a4⟩ := hb
 have hx : (shotP e p).ax = p.ax + wayX p.fa 262144 := by
  show satI _ = _
  unfold satI
  rw [if_neg (by omega), if_neg (by omega)]
 have hy : (shotP e p).ay = p.ay + wayY p.fa 262144 := by
  show satI _ = _
  unfold satI
  rw [if_neg (by omega), if_neg (by omega)]
 refine ⟨⟨⟨sat_bd _, sat_bd _, sat_bd _, sat_bd _⟩, .inr ⟨he, by show (1 : Int) ≤ 40 ∧ (40 : Int) ≤ 40; decide⟩⟩, ?_⟩
 unfold freeB flyB
 have h1 : inB (shotP e p).ow 1 2 = true := by show (decide (1 ≤ e) && decide (e ≤ 2)) = true; simp [he.1, he.2]
 have h2 : inB (shotP e p).li 1 40 = true := by show (decide ((1 : Int) ≤ 40) && decide ((40 : Int) ≤ 40)) = true; decide
 have h3 : insideB (-4194304) (-4194304) 4194304 4194304 (shotP e p).ax (shotP e p).ay = true := by
  unfold insideB
  rw [hx, hy]
  simp
  omega
 rw [h1, h2, h3]
 simp

theorem free_lt {s : St} {k : Nat} (h : freeS s = some k) : k < 6 := by
 unfold freeS at h
 have := List.mem_of_find?_eq_some h
 simpa using this
theorem set_fr (s : St) (t : Nat) (p : Pl) : (setP s t p).fr = s.fr := by unfold setP; split <;> rfl
theorem setS_pl {s : St} {k : Nat} (hk : k < 6) (x : Bu) (t : Nat) : plS (setS s k x) t = plS s t ∧ (setS s k x).fr = s.fr := by
 have hh : k = 0 ∨ k = 1 ∨ k = 2 ∨ k = 3 ∨ k = 4 ∨ k = 5 := by omega
 rcases hh with rfl | rfl | rfl | rfl | rfl | rfl <;> exact ⟨rfl, rfl⟩

theorem Ms.fire {m : Int} {q : Q} (h : Ms m q.1) {t : Nat} (ht : t < 2) : Ms m (fireQ t q).1 := by
 unfold fireQ
 cases hf : freeS q.1 with
 | none => exact h
 | some k =>
  have hk := free_lt hf
  obtain ⟨hp, hb, hc, hu⟩ := h.pl ht
  obtain ⟨s1, s2⟩ := shot_ok hp hb (t + 1) (by omega)
  have h2 := h.shot hk s1 s2
  refine h2.put ht ⟨hp.ax, hp.ay, hp.vx, hp.vy, hp.fa, hp.hp, by show (0 : Int) ≤ 8 ∧ (8 : Int) ≤ 8; decide, hp.wi, hp.dn, hp.sc, hp.up⟩ hb hc hu
theorem corn_bd (k : Int) : (-3932160 ≤ cornX k ∧ cornX k ≤ 3932160) ∧ (-3932160 ≤ cornY k ∧ cornY k ≤ 3932160) := by
 unfold cornX cornY
 split <;> split <;> decide
theorem Ms.rest {m : Int} {q : Q} (h : Ms m q.1) {t : Nat} (ht : t < 2) (hd : 0 < (plS q.1 t).dn) : Ms m (restP t q).1 := by
 obtain ⟨hp, hb, hc, hu⟩ := h.pl ht
 unfold restP
 split
 · have hcb := corn_bd (thI (nxI q.1.di) 4)
   have h2 := h.put ht (p := ⟨cornX (thI (nxI q.1.di) 4), cornY (thI (nxI q.1.di) 4), 0, 0, 0, 3, 0, 0, 0, (plS q.1 t).sc⟩) ⟨by show -4194304 ≤ cornX (thI (nxI q.1.di) 4) ∧ cornX (thI (nxI q.1.di) 4) ≤ 4194304; omega, by show -4194304 ≤ cornY (thI (nxI q.1.di) 4) ∧ cornY (thI (nxI q.1.di) 4) ≤ 4194304; omega, by show In32 0; decide, by show In32 0; decide, by show (0 : Int) ≤ 0 ∧ (0 : Int) ≤ 65535; decide, by show (0 : Int) ≤ 3 ∧ (3 : Int) ≤ 3; decide, by show (0 : Int) ≤ 0 ∧ (0 : Int) ≤ 8; decide, by show (0 : Int) ≤ 0 ∧ (0 : Int) ≤ 20; decide, by show (0 : Int) ≤ 0 ∧ (0 : Int) ≤ 30; decide, hp.sc, fun _ => by show (1 : Int) ≤ 3; decide⟩ hcb hc (.inl rfl)
   have hn := nx_bd q.1.di
   exact ⟨hn, h2.fr, h2.rd, h2.lf, h2.p0, h2.p1, h2.b0, h2.b1, h2.c0, h2.c1, h2.u0, h2.u1, h2.sh⟩
 · rename_i hne
   have hhp : (plS q.1 t).hp = 0 := by omega
   exact h.put ht ⟨hp.ax, hp.ay, hp.vx, hp.vy, hp.fa, hp.hp, hp.co, hp.wi, by show 0 ≤ (plS q.1 t).dn - 1 ∧ (plS q.1 t).dn - 1 ≤ 30; have := hp.dn; omega, hp.sc, fun e => by have : (plS q.1 t).dn - 1 = 0 := e; omega⟩ hb hc (.inr hhp)

theorem drive_keeps (fr e a : Int) (r : R) : (driveP fr e a r).1.ax = r.1.ax ∧ (driveP fr e a r).1.sc = r.1.sc ∧ (driveP fr e a r).1.dn = r.1.dn ∧ (driveP fr e a r).1.hp = r.1.hp := by
 unfold driveP dashP thrustP brakeP
 repeat' split
 all_goals exact ⟨rfl, rfl, rfl, rfl⟩
theorem Ms.play {m : Int} {q : Q} (h : Ms m q.1) {t : Nat} (ht : t < 2) (a : Int) : Ms m (playP t a q).1 := by
 unfold playP
 split
 · rename_i hd
   exact h.rest ht hd
 · obtain ⟨hp, hb, hc, hu⟩ := h.pl ht
   unfold upP
   have hm := ((hp.cool a).drive q.1.fr (t + 1) a (r := (coolP a (plS q.1 t), q.2))).move q.1.fr (t + 1)
   obtain ⟨d1, d2, d3, d4⟩ := drive_keeps q.1.fr (t + 1) a (coolP a (plS q.1 t), q.2)
   have hs : Ms m (setP q.1 t (moveP q.1.fr (t + 1) (driveP q.1.fr (t + 1) a (coolP a (plS q.1 t), q.2))).1) := by
    refine h.put ht hm ⟨mvP_in _ _, mvP_in _ _⟩ ?_ ?_
    · show (driveP q.1.fr (t + 1) a (coolP a (plS q.1 t), q.2)).1.sc ≤ m
      rw [d2]; exact hc
    · show (driveP q.1.fr (t + 1) a (coolP a (plS q.1 t), q.2)).1.dn = 0 ∨ (driveP q.1.fr (t + 1) a (coolP a (plS q.1 t), q.2)).1.hp = 0
      rw [d3, d4]; exact hu
   dsimp only
   unfold fireP
   split
   · exact Ms.fire (q := (_, _)) hs ht
   · exact hs

end Go.Proofs.YtfclnhmijjlhdaaGreatDoor.Gm

namespace Go.Proofs.YtfclnhmijjlhdaaGreatDoor.Gm
open Go.RowKit Go.Proofs.YtfclnhmijjlhdaaGreatDoor.Fx Go.Proofs.YtfclnhmijjlhdaaGreatDoor.Tg Go.Proofs.YtfclnhmijjlhdaaGreatDoor.Dc
open Go.Proofs.YtfclnhmijjlhdaaGreatDoor.Ev (Ev Ky addR pageI At ecs Pg Evs)
open Go.Proofs.YtfclnhmijjlhdaaGreatDoor.Sh (In32 vec box insideB touchB slI mvP mvV wallI)
set_option linter.unusedVariables false

theorem Ms.clash {m : Int} {q : Q} (h : Ms m q.1) : Ms m (clashP q).1 := by
 unfold clashP
 split
 · exact ⟨h.di, h.fr, h.rd, h.lf, ⟨h.p0.ax, h.p0.ay, h.p1.vx, h.p1.vy, h.p0.fa, h.p0.hp, h.p0.co, h.p0.wi, h.p0.dn, h.p0.sc, h.p0.up⟩, ⟨h.p1.ax, h.p1.ay, h.p0.vx, h.p0.vy, h.p1.fa, h.p1.hp, h.p1.co, h.p1.wi, h.p1.dn, h.p1.sc, h.p1.up⟩, h.b0, h.b1, h.c0, h.c1, h.u0, h.u1, h.sh⟩
 · exact h
theorem Ms.more {m m' : Int} {s : St} (h : Ms m s) (hm : m ≤ m') : Ms m' s :=
 ⟨h.di, h.fr, h.rd, h.lf, h.p0, h.p1, h.b0, h.b1, Int.le_trans h.c0 hm, Int.le_trans h.c1 hm, h.u0, h.u1, h.sh⟩
theorem Mp.score {p : Pl} (h : Mp p) {n : Int} (hn : 0 ≤ n ∧ n ≤ 1000) : Mp { p with sc := n } := ⟨h.ax, h.ay, h.vx, h.vy, h.fa, h.hp, h.co, h.wi, h.dn, hn, h.up⟩
theorem Ms.hit {m : Int} {q : Q} (h : Ms m q.1) (hm : m ≤ 900) {o : Nat} (ho : o < 2) (hd : (plS q.1 o).dn = 0) : Ms (m + 1) (hitP o q).1 := by
 obtain ⟨hp, hb, hc, hu⟩ := h.pl ho
 have hhp := hp.up hd
 unfold hitP
 split
 · have h1 := h.put ho (p := { plS q.1 o with hp := 0, dn := 30 }) ⟨hp.ax, hp.ay, hp.vx, hp.vy, hp.fa, by show (0 : Int) ≤ 0 ∧ (0 : Int) ≤ 3; decide, hp.co, hp.wi, by show (0 : Int) ≤ 30 ∧ (30 : Int) ≤ 30; decide, hp.sc, fun e => by have : (30 : Int) = 0 := e; omega⟩ hb hc (.inr rfl)
   have hu2 : 1 - o < 2 := by omega
   obtain ⟨gp, gb, gc, gu⟩ := h.pl hu2
   have h2 := (h1.more (show m ≤ m + 1 by omega)).put hu2 (p := { plS q.1 (1 - o) with sc := (plS q.1 (1 - o)).sc + 1 }) (gp.score ⟨by have := gp.sc; omega, by omega⟩) gb (by show (plS q.1 (1 - o)).sc + 1 ≤ m + 1; omega) gu
   exact h2
 · rename_i hne
   refine (h.more (show m ≤ m + 1 by omega)).put ho (p := { plS q.1 o with hp := (plS q.1 o).hp - 1 }) ⟨hp.ax, hp.ay, hp.vx, hp.vy, hp.fa, by show 0 ≤ (plS q.1 o).hp - 1 ∧ (plS q.1 o).hp - 1 ≤ 3; have := hp.hp; omega, hp.co, hp.wi, hp.dn, hp.sc, fun _ => by show 1 ≤ (plS q.1 o).hp - 1; have := hp.hp; omega⟩ hb (by show (plS q.1 o).sc ≤ m + 1; omega) (.inl hd)
theorem Ms.fly {m : Int} {q : Q} (h : Ms m q.1) (hm : m ≤ 900) {k : Nat} (hk : k < 6) : Ms (m + 1) (flyP k q).1 := by
 have hz := h.shot hk zero_ok.1 zero_ok.2
 obtain ⟨hb, hf⟩ := h.sh k hk
 unfold flyP
 split
 · exact h.more (by omega)
 · rename_i how
   split
   · exact hz.more (by omega)
   · rename_i hli
     have hx : ¬ shS q.1 k = zeroB := fun e => how (by rw [e]; rfl)
     have hok : (1 ≤ (shS q.1 k).ow ∧ (shS q.1 k).ow ≤ 2) ∧ (1 ≤ (shS q.1 k).li ∧ (shS q.1 k).li ≤ 40) := by
      rcases hb.ok with e | e
      · exact absurd e hx
      · exact e
     have hin : inA (onB (shS q.1 k)).ax (onB (shS q.1 k)).ay = true := by
      cases e : inA (onB (shS q.1 k)).ax (onB (shS q.1 k)).ay
      · exact absurd (.inr e) hli
      · rfl
     have hl1 : (shS q.1 k).li ≠ 1 := fun e => hli (.inl e)
     split
     · rename_i hh
       have ho : othN (shS q.1 k) < 2 := by unfold othN; split <;> omega
       have hdn : (plS q.1 (othN (shS q.1 k))).dn = 0 := by
        unfold hitsB at hh
        simp at hh
        exact hh.1
       exact hz.hit (q := (setS q.1 k zeroB, q.2)) hm ho (by rw [(setS_pl hk zeroB _).1]; exact hdn)
     · refine (h.shot hk (x := onB (shS q.1 k)) ⟨⟨sat_bd _, sat_bd _, hb.ty.2.2.1, hb.ty.2.2.2⟩, .inr ⟨hok.1, by show 1 ≤ (shS q.1 k).li - 1 ∧ (shS q.1 k).li - 1 ≤ 40; omega⟩⟩ ?_).more (by omega)
       unfold freeB flyB
       have e1 : inB (onB (shS q.1 k)).ow 1 2 = true := by show (decide (1 ≤ (shS q.1 k).ow) && decide ((shS q.1 k).ow ≤ 2)) = true; simp [hok.1.1, hok.1.2]
       have e2 : inB (onB (shS q.1 k)).li 1 40 = true := by
        show (decide (1 ≤ (shS q.1 k).li - 1) && decide ((shS q.1 k).li - 1 ≤ 40)) = true
        simp
        omega
       have e3 : insideB (-4194304) (-4194304) 4194304 4194304 (onB (shS q.1 k)).ax (onB (shS q.1 k)).ay = true := hin
       rw [e1, e2, e3]
       simp
theorem Ms.flies {m : Int} {q : Q} (h : Ms m q.1) (hm : m ≤ 800) : ∀ k : Nat, k ≤ 6 → Ms (m + (k : Int)) (fliesP k q).1
 | 0, _ => h.more (by omega)
 | k + 1, hk => by
  have := (Ms.flies h hm k (by omega)).fly (by omega) (show k < 6 by omega)
  rw [show m + ((k + 1 : Nat) : Int) = m + k + 1 by omega]
  exact this
theorem fresh_ok : (Mp fresh0 ∧ boxP fresh0 ∧ fresh0.sc ≤ 2 ∧ (fresh0.dn = 0 ∨ fresh0.hp = 0)) ∧ (Mp fresh1 ∧ boxP fresh1 ∧ fresh1.sc ≤ 2 ∧ (fresh1.dn = 0 ∨ fresh1.hp = 0)) :=
 ⟨⟨⟨by decide, by decide, by decide, by decide, by decide, by decide, by decide, by decide, by decide, by decide, fun _ => by decide⟩, ⟨by decide, by decide⟩, by decide, .inl rfl⟩, ⟨⟨by decide, by decide, by decide, by decide, by decide, by decide, by decide, by decide, by decide, by decide, fun _ => by decide⟩, ⟨by decide, by decide⟩, by decide, .inl rfl⟩⟩
theorem zeros_ok (fr di rd lf : Int) (p q : Pl) : ∀ k, k < 6 → Mb (shS ⟨fr, di, rd, lf, p, q, zeroB, zeroB, zeroB, zeroB, zeroB, zeroB⟩ k) ∧ freeB (shS ⟨fr, di, rd, lf, p, q, zeroB, zeroB, zeroB, zeroB, zeroB, zeroB⟩ k) = true := by
 intro k hk
 have hh : k = 0 ∨ k = 1 ∨ k = 2 ∨ k = 3 ∨ k = 4 ∨ k = 5 := by omega
 rcases hh with rfl | rfl | rfl | rfl | rfl | rfl <;> exact zero_ok
/-- behind the round's count no score is above 2; one round more there may be. -/
theorem count_ok {m : Int} {q : Q} (h : Ms m q.1) (hr : q.1.rd < 1073741824) : Ms 2 (countP q).1 := by
 unfold countP
 split
 · obtain ⟨⟨a1, a2, a3, a4⟩, b1, b2, b3, b4⟩ := fresh_ok
   exact ⟨h.di, h.fr, by show 0 ≤ q.1.rd + 1 ∧ q.1.rd + 1 ≤ 1073741824; have := h.rd; omega, by show (1 : Int) ≤ 600 ∧ (600 : Int) ≤ 600; decide, a1, b1, a2, b2, a3, b3, a4, b4, zeros_ok _ _ _ _ _ _⟩
 · rename_i hn
   have h0 : ¬ q.1.lf = 1 := fun e => hn (.inl e)
   have h1 : ¬ 3 ≤ q.1.p0.sc := fun e => hn (.inr (.inl e))
   have h2 : ¬ 3 ≤ q.1.p1.sc := fun e => hn (.inr (.inr e))
   exact ⟨h.di, h.fr, h.rd, by show 1 ≤ q.1.lf - 1 ∧ q.1.lf - 1 ≤ 600; have := h.lf; omega, h.p0, h.p1, h.b0, h.b1, by show q.1.p0.sc ≤ 2; omega, by show q.1.p1.sc ≤ 2; omega, h.u0, h.u1, h.sh⟩

end Go.Proofs.YtfclnhmijjlhdaaGreatDoor.Gm

namespace Go.Proofs.YtfclnhmijjlhdaaGreatDoor.Gm
open Go.RowKit Go.Proofs.YtfclnhmijjlhdaaGreatDoor.Fx Go.Proofs.YtfclnhmijjlhdaaGreatDoor.Tg Go.Proofs.YtfclnhmijjlhdaaGreatDoor.Dc
open Go.Proofs.YtfclnhmijjlhdaaGreatDoor.Ev (Ev Ky addR pageI At ecs Pg Evs)
open Go.Proofs.YtfclnhmijjlhdaaGreatDoor.Sh (In32 vec box insideB touchB slI mvP mvV wallI)
set_option linter.unusedVariables false

theorem inB_iff {n a b : Int} : inB n a b = true ↔ a ≤ n ∧ n ≤ b := by unfold inB; simp
theorem playB_mp {p : Pl} (h : playB p = true) (ht : tyP p) : Mp p ∧ boxP p ∧ p.sc ≤ 2 ∧ (p.dn = 0 ∨ p.hp = 0) := by
 unfold playB at h
 simp only [Bool.and_eq_true, inB_iff] at h
 obtain ⟨h1, h2, h3, h4, h5, h6, h7, h8⟩ := h
 unfold insideB at h7
 simp at h7
 have hu : 0 < p.hp ↔ p.dn = 0 := by
  have h9 : decide (0 < p.hp) = decide (p.dn = 0) := by simpa using h8
  rw [decide_eq_decide] at h9
  exact h9
 refine ⟨⟨by omega, by omega, ht.2.2.1, ht.2.2.2, h1, h2, h3, h4, h5, by omega, fun e => by have := hu.2 e; omega⟩, ⟨⟨h7.1, h7.2.1⟩, h7.2.2.1, h7.2.2.2⟩, h6.2, ?_⟩
 by_cases e : p.dn = 0
 · exact .inl e
 · right
   have : ¬ 0 < p.hp := fun hh => e (hu.1 hh)
   omega
theorem mp_playB {p : Pl} (h : Mp p) (hb : boxP p) (hc : p.sc ≤ 2) (hu : p.dn = 0 ∨ p.hp = 0) : playB p = true := by
 unfold playB
 simp only [Bool.and_eq_true, inB_iff]
 refine ⟨h.fa, h.hp, h.co, h.wi, h.dn, ⟨h.sc.1, hc⟩, ?_, ?_⟩
 · unfold insideB
   simp
   exact ⟨hb.1.1, hb.1.2, hb.2.1, hb.2.2⟩
 · have hi : (0 < p.hp) ↔ (p.dn = 0) := by
    constructor
    · intro hh
      rcases hu with e | e
      · exact e
      · omega
    · intro e
      have := h.up e
      omega
   simp [hi]
theorem freeB_mb {x : Bu} (h : freeB x = true) (ht : tyB x) : Mb x := by
 refine ⟨ht, ?_⟩
 unfold freeB flyB at h
 simp only [Bool.or_eq_true, Bool.and_eq_true, inB_iff, decide_eq_true_iff] at h
 rcases h with e | ⟨e1, e2, _⟩
 · exact .inl e
 · exact .inr ⟨e1, e2⟩
theorem tyS_sh {s : St} (h : tyS s) {k : Nat} (hk : k < 6) : tyB (shS s k) := by
 have hh : k = 0 ∨ k = 1 ∨ k = 2 ∨ k = 3 ∨ k = 4 ∨ k = 5 := by omega
 obtain ⟨_, _, _, h0, h1, h2, h3, h4, h5⟩ := h
 rcases hh with rfl | rfl | rfl | rfl | rfl | rfl
 · exact h0
 · exact h1
 · exact h2
 · exact h3
 · exact h4
 · exact h5
theorem right_parts {s : St} (h : rightS s = true) : numsB s = true ∧ playB s.p0 = true ∧ playB s.p1 = true ∧ ∀ k, k < 6 → freeB (shS s k) = true := by
 unfold rightS at h
 simp only [Bool.and_eq_true] at h
 obtain ⟨h1, ⟨h2, h3⟩, ⟨⟨⟨⟨h4, h5⟩, h6⟩, h7⟩, h8⟩, h9⟩ := h
 refine ⟨h1, h2, h3, fun k hk => ?_⟩
 have hh : k = 0 ∨ k = 1 ∨ k = 2 ∨ k = 3 ∨ k = 4 ∨ k = 5 := by omega
 rcases hh with rfl | rfl | rfl | rfl | rfl | rfl
 · exact h4
 · exact h5
 · exact h6
 · exact h7
 · exact h8
 · exact h9
theorem right_ms {s : St} (h : rightS s = true) (ht : tyS s) : Ms 2 s := by
 obtain ⟨h1, h2, h3, h4⟩ := right_parts h
 unfold numsB at h1
 simp only [Bool.and_eq_true, inB_iff] at h1
 obtain ⟨a1, a2, a3, a4⟩ := playB_mp h2 ht.2.1
 obtain ⟨b1, b2, b3, b4⟩ := playB_mp h3 ht.2.2.1
 exact ⟨ht.1, h1.1, h1.2.1, h1.2.2, a1, b1, a2, b2, a3, b3, a4, b4, fun k hk => ⟨freeB_mb (h4 k hk) (tyS_sh ht hk), h4 k hk⟩⟩
theorem ms_right {s : St} (h : Ms 2 s) : rightS s = true := by
 refine rightS_yes ?_ ?_ fun k hk => (h.sh k hk).2
 · unfold numsB
   simp only [Bool.and_eq_true, inB_iff]
   exact ⟨h.fr, h.rd, h.lf⟩
 · intro j hj
   obtain ⟨a1, a2, a3, a4⟩ := h.pl hj
   exact mp_playB a1 a2 a3 a4
theorem ms_ty {m : Int} {s : St} (h : Ms m s) : tyS s := by
 have i32 : ∀ x : Int, -4194304 ≤ x ∧ x ≤ 4194304 → In32 x := fun x hx => in32_of hx
 exact ⟨h.di, ⟨i32 _ h.p0.ax, i32 _ h.p0.ay, h.p0.vx, h.p0.vy⟩, ⟨i32 _ h.p1.ax, i32 _ h.p1.ay, h.p1.vx, h.p1.vy⟩, (h.sh 0 (by decide)).1.ty, (h.sh 1 (by decide)).1.ty, (h.sh 2 (by decide)).1.ty, (h.sh 3 (by decide)).1.ty, (h.sh 4 (by decide)).1.ty, (h.sh 5 (by decide)).1.ty⟩
theorem setP_keeps (s : St) (t : Nat) (p : Pl) : (setP s t p).fr = s.fr ∧ (setP s t p).rd = s.rd := by unfold setP; split <;> exact ⟨rfl, rfl⟩
theorem setS_keeps {s : St} {k : Nat} (hk : k < 6) (x : Bu) : (setS s k x).fr = s.fr ∧ (setS s k x).rd = s.rd := by
 have hh : k = 0 ∨ k = 1 ∨ k = 2 ∨ k = 3 ∨ k = 4 ∨ k = 5 := by omega
 rcases hh with rfl | rfl | rfl | rfl | rfl | rfl <;> exact ⟨rfl, rfl⟩
theorem fire_keeps (t : Nat) (q : Q) : (fireQ t q).1.fr = q.1.fr ∧ (fireQ t q).1.rd = q.1.rd := by
 unfold fireQ
 cases hf : freeS q.1 with
 | none => exact ⟨rfl, rfl⟩
 | some k =>
  have h1 := setS_keeps (s := q.1) (free_lt hf) (shotP (t + 1) (plS q.1 t))
  have h2 := setP_keeps (setS q.1 k (shotP (t + 1) (plS q.1 t))) t { plS q.1 t with co := 8 }
  exact ⟨h2.1.trans h1.1, h2.2.trans h1.2⟩
theorem play_keeps (t : Nat) (a : Int) (q : Q) : (playP t a q).1.fr = q.1.fr ∧ (playP t a q).1.rd = q.1.rd := by
 unfold playP
 split
 · unfold restP
   split
   · exact setP_keeps q.1 t _
   · exact setP_keeps q.1 t _
 · unfold upP
   dsimp only
   unfold fireP
   split
   · have h1 := fire_keeps t (setP q.1 t (moveP q.1.fr (t + 1) (driveP q.1.fr (t + 1) a (coolP a (plS q.1 t), q.2))).1, (moveP q.1.fr (t + 1) (driveP q.1.fr (t + 1) a (coolP a (plS q.1 t), q.2))).2)
     have h2 := setP_keeps q.1 t (moveP q.1.fr (t + 1) (driveP q.1.fr (t + 1) a (coolP a (plS q.1 t), q.2))).1
     exact ⟨h1.1.trans h2.1, h1.2.trans h2.2⟩
   · exact setP_keeps q.1 t _
theorem clash_keeps (q : Q) : (clashP q).1.fr = q.1.fr ∧ (clashP q).1.rd = q.1.rd := by unfold clashP; split <;> exact ⟨rfl, rfl⟩
theorem hit_keeps (o : Nat) (q : Q) : (hitP o q).1.fr = q.1.fr ∧ (hitP o q).1.rd = q.1.rd := by
 unfold hitP
 split
 · have h1 := setP_keeps q.1 o { plS q.1 o with hp := 0, dn := 30 }
   have h2 := setP_keeps (setP q.1 o { plS q.1 o with hp := 0, dn := 30 }) (1 - o) { plS q.1 (1 - o) with sc := (plS q.1 (1 - o)).sc + 1 }
   exact ⟨h2.1.trans h1.1, h2.2.trans h1.2⟩
 · exact setP_keeps q.1 o _
theorem fly_keeps {k : Nat} (hk : k < 6) (q : Q) : (flyP k q).1.fr = q.1.fr ∧ (flyP k q).1.rd = q.1.rd := by
 have hz := setS_keeps (s := q.1) hk zeroB
 by_cases h0 : (shS q.1 k).ow = 0
 · rw [show flyP k q = q by unfold flyP; rw [if_pos h0]]
   exact ⟨rfl, rfl⟩
 · by_cases h1 : (shS q.1 k).li = 1 ∨ inA (onB (shS q.1 k)).ax (onB (shS q.1 k)).ay = false
   · rw [show flyP k q = (setS q.1 k zeroB, q.2) by unfold flyP; rw [if_neg h0, if_pos h1]]
     exact hz
   · by_cases h2 : hitsB q.1 (onB (shS q.1 k)) = true
     · rw [show flyP k q = hitP (othN (shS q.1 k)) (setS q.1 k zeroB, q.2) by unfold flyP; rw [if_neg h0, if_neg h1, if_pos h2]]
       have h3 := hit_keeps (othN (shS q.1 k)) (setS q.1 k zeroB, q.2)
       exact ⟨h3.1.trans hz.1, h3.2.trans hz.2⟩
     · rw [show flyP k q = (setS q.1 k (onB (shS q.1 k)), q.2) by unfold flyP; rw [if_neg h0, if_neg h1, if_neg h2]]
       exact setS_keeps hk _
theorem flies_keeps (q : Q) : ∀ k, k ≤ 6 → (fliesP k q).1.fr = q.1.fr ∧ (fliesP k q).1.rd = q.1.rd
 | 0, _ => ⟨rfl, rfl⟩
 | k + 1, hk => by
  have h1 := flies_keeps q k (by omega)
  have h2 := fly_keeps (show k < 6 by omega) (fliesP k q)
  exact ⟨h2.1.trans h1.1, h2.2.trans h1.2⟩
theorem count_fr (q : Q) : (countP q).1.fr = q.1.fr := by unfold countP; split <;> rfl
theorem step_fr (s : St) (a b : Int) : (stepP s a b).1.fr = s.fr + 1 := by
 have h1 := (play_keeps 0 a (s, [])).1
 have h2 := (play_keeps 1 b (playP 0 a (s, []))).1
 have h3 := (clash_keeps (playP 1 b (playP 0 a (s, [])))).1
 have h4 := (flies_keeps (clashP (playP 1 b (playP 0 a (s, [])))) 6 (Nat.le_refl _)).1
 have h5 := count_fr (fliesP 6 (clashP (playP 1 b (playP 0 a (s, [])))))
 show (countP (fliesP 6 (clashP (playP 1 b (playP 0 a (s, [])))))).1.fr + 1 = s.fr + 1
 rw [h5, h4, h3, h2, h1]
/-- A step leads from what may be to what may be, if there are frames and rounds left. -/
theorem step_ok {s : St} (h : Ms 2 s) (hr : s.rd < 1073741824) (hf : s.fr < 1073741824) (a b : Int) : Ms 2 (stepP s a b).1 := by
 have h1 := (Ms.play (q := (s, [])) h (show 0 < 2 by decide) a)
 have h2 := h1.play (show 1 < 2 by decide) b
 have h3 := h2.clash
 have h4 := h3.flies (by omega) 6 (Nat.le_refl _)
 have k1 := (play_keeps 0 a (s, [])).2
 have k2 := (play_keeps 1 b (playP 0 a (s, []))).2
 have k3 := (clash_keeps (playP 1 b (playP 0 a (s, [])))).2
 have k4 := (flies_keeps (clashP (playP 1 b (playP 0 a (s, [])))) 6 (Nat.le_refl _)).2
 have h5 := count_ok h4 (by rw [k4, k3, k2, k1]; exact hr)
 have h6 := step_fr s a b
 refine ⟨h5.di, ?_, h5.rd, h5.lf, h5.p0, h5.p1, h5.b0, h5.b1, h5.c0, h5.c1, h5.u0, h5.u1, h5.sh⟩
 rw [h6]
 have := h.fr
 omega
/-- A step makes one round more at most. -/
theorem step_rd (s : St) (a b : Int) : (stepP s a b).1.rd ≤ s.rd + 1 ∧ s.rd ≤ (stepP s a b).1.rd := by
 have k1 := (play_keeps 0 a (s, [])).2
 have k2 := (play_keeps 1 b (playP 0 a (s, []))).2
 have k3 := (clash_keeps (playP 1 b (playP 0 a (s, [])))).2
 have k4 := (flies_keeps (clashP (playP 1 b (playP 0 a (s, [])))) 6 (Nat.le_refl _)).2
 have k5 : ∀ q : Q, (countP q).1.rd ≤ q.1.rd + 1 ∧ q.1.rd ≤ (countP q).1.rd := by
  intro q
  unfold countP
  split
  · exact ⟨Int.le_refl _, by show q.1.rd ≤ q.1.rd + 1; omega⟩
  · exact ⟨by show q.1.rd ≤ q.1.rd + 1; omega, Int.le_refl _⟩
 have h := k5 (fliesP 6 (clashP (playP 1 b (playP 0 a (s, [])))))
 rw [k4, k3, k2, k1] at h
 exact h

end Go.Proofs.YtfclnhmijjlhdaaGreatDoor.Gm
