/- The law CoreBounds (layer 15, core): never too far ahead; what is settled is settled for ever. -/
import Derived.Test.YtfclnhmijjlhdaaGreatDoorCrAct
namespace Go.Proofs.YtfclnhmijjlhdaaGreatDoor.Cr
open Go.RowKit
open Go.Proofs.YtfclnhmijjlhdaaGreatDoor.Rg
open Go.Proofs.YtfclnhmijjlhdaaGreatDoor.Gm (St stepP Tab beginS)
open Go.Proofs.YtfclnhmijjlhdaaGreatDoor.Ev (Ev At bt br bal bd1 bdn)
open Go.Proofs.YtfclnhmijjlhdaaGreatDoor.Co (Co now setN offerM hearM repairM stepM freeTo freeM)
set_option linter.unusedVariables false
set_option maxRecDepth 100000

/-- the law on its way: the core, behind i acts; the config; what was settled last. -/
structure Bw (w W : World) (b : Nat) (c : C) (s0 : St) (i : Nat) (cfg : Array Value) (wi : Nat) (last : Int) (N : Nat) : Prop where
 lc : Lc w W b c
 ho : Ho s0 c i
 cf : At W N cfg 24
 wi : c.w = wi
 le : last ≤ (setN c : Int) - 1
theorem Bw.below {w W W' : World} {b : Nat} {c : C} {s0 : St} {i : Nat} {cfg : Array Value} {wi : Nat} {last : Int} {N : Nat} (h : Bw w W b c s0 i cfg wi last N) (g : Below W.heap.size W W') : Bw w W' b c s0 i cfg wi last N :=
 ⟨h.lc.below g, h.ho, h.cf.below g, h.wi, h.le⟩
section
variable {w W : World} {b : Nat} {c : C} {s0 : St} {i : Nat} {cfg : Array Value} {wi : Nat} {last : Int} {N : Nat}
theorem offer_w (c : C) (x : Int) : (offerM c x).w = c.w := by unfold offerM; split <;> rfl
theorem Bw.offer (h : Bw w W b c s0 i cfg wi last N) (hi : i ≤ 1000) (x : Int) (hx : 0 ≤ x) : Calls Tryz.prog 14 #[.pointer (some ⟨b, 0, none⟩), .int .u8 x] W fun e w' => (∃ y z, e = .returned (.tuple #[.int .i64 y, .int .i64 z])) ∧ Bw w w' b (offerM c x) s0 (i + 1) cfg wi last N ∧ Kd W w' :=
 (h.lc.offer h.ho (by omega) x hx).mono fun e w' ⟨⟨y, he⟩, h1, h2⟩ => ⟨⟨y, _, he⟩, ⟨h1, (h.ho.offer hx).1.more (by omega), h2 _ _ _ h.cf (by decide), (offer_w c x).trans h.wi, by have := (h.ho.offer hx).2; have := h.le; omega⟩, h2⟩
theorem Bw.hear (h : Bw w W b c s0 i cfg wi last N) (f x : Int) (hx : 0 ≤ x) : Calls Tryz.prog 15 #[.pointer (some ⟨b, 0, none⟩), .int .i64 f, .int .u8 x] W fun e w' => (∃ z, e = .returned (.int .i64 z)) ∧ Bw w w' b (hearM c f x) s0 (i + 1) cfg wi last N ∧ Kd W w' :=
 (h.lc.hear h.ho f x hx).mono fun e w' ⟨he, h1, h2⟩ => ⟨⟨_, he⟩, ⟨h1, (h.ho.hear hx).1.more (by omega), h2 _ _ _ h.cf (by decide), h.wi, by have := (h.ho.hear (f := f) hx).2; have := h.le; omega⟩, h2⟩
theorem Bw.repair (h : Bw w W b c s0 i cfg wi last N) (hi : i ≤ 1000) (htab : Tab w) : Calls Tryz.prog 16 #[.pointer (some ⟨b, 0, none⟩)] W fun e w' => (∃ v, e = .returned (.tuple #[v, .int .i64 0])) ∧ Bw w w' b (repairM stepP c) s0 (i + 1) cfg wi last N ∧ Kd W w' :=
 (h.lc.repair h.ho (by omega) htab).mono fun e w' ⟨⟨v, he⟩, h1, h2⟩ => by
  obtain ⟨r1, r2, r3, r4, r5, r6, r7⟩ := h.ho.repair (by omega)
  exact ⟨⟨v, he⟩, ⟨h1, r1.more (by omega), h2 _ _ _ h.cf (by decide), r6.trans h.wi, by have := h.le; omega⟩, h2⟩
theorem step_w (c : C) : (stepM stepP c).w = c.w := by
 unfold stepM
 split
 · unfold Co.play; split <;> rfl
 · rfl
theorem Bw.step (h : Bw w W b c s0 i cfg wi last N) (hi : i ≤ 1000) (htab : Tab w) : Calls Tryz.prog 17 #[.pointer (some ⟨b, 0, none⟩)] W fun e w' => (∃ y v z, e = .returned (.tuple #[.agg #[.int .i64 y, v], .int .i64 z])) ∧ Bw w w' b (stepM stepP c) s0 (i + 1) cfg wi last N ∧ Kd W w' :=
 (h.lc.step h.ho (by omega) htab).mono fun e w' ⟨⟨y, v, he⟩, h1, h2⟩ => by
  obtain ⟨r1, r2⟩ := h.ho.step (by omega)
  exact ⟨⟨y, v, _, he⟩, ⟨h1, r1, h2 _ _ _ h.cf (by decide), (step_w c).trans h.wi, by have := h.le; omega⟩, h2⟩
theorem Bw.free (h : Bw w W b c s0 i cfg wi last N) (hi : i ≤ 1000) (f : Int) : Calls Tryz.prog 18 #[.pointer (some ⟨b, 0, none⟩), .int .i64 f] W fun e w' => (∃ y, e = .returned (.int .i64 y)) ∧ Bw w w' b (freeM c f) s0 i cfg wi last N ∧ Kd W w' :=
 (h.lc.free h.ho (by omega) f).mono fun e w' ⟨he, h1, h2⟩ => by
  obtain ⟨r1, r2⟩ := h.ho.free f
  exact ⟨he, ⟨h1, r1, h2 _ _ _ h.cf (by decide), h.wi, by rw [r2]; exact h.le⟩, h2⟩
/-- the current frame is at most the window behind what is common. -/
theorem Bw.ahead (h : Bw w W b c s0 i cfg wi last N) : now c ≤ Co.common c + wi := by
 obtain ⟨U, hI⟩ := h.ho.inv
 have := hI.ahead
 rw [h.wi] at this
 exact this
theorem Bw.low (h : Bw w W b c s0 i cfg wi last N) : setN c ≤ now c ∧ now c ≤ i ∧ Co.common c ≤ 1073741825 ∧ c.first ≤ setN c := by
 obtain ⟨U, hI⟩ := h.ho.inv
 have := h.ho.cm
 have e : Co.common c = Cr.cm c.F := rfl
 refine ⟨by unfold setN; omega, h.ho.nw, by rw [e]; exact this, hI.fle⟩
/-- freed of all that is settled, behind a repair. -/
theorem freed {c : C} (h : Ho s0 c i) (hw : Fd.wrong (c.F (1 - c.me)) = none) (hn : now c ≤ 1000) (hah : now c ≤ Co.common c + wi) : (freeM c 1073741824).first = setN c ∧ (now c : Int) + 1 - setN c ≤ wi + 1 := by
 obtain ⟨U, hI⟩ := h.inv
 have hf := hI.fle
 have hs : setN c ≤ now c := by unfold setN; omega
 refine ⟨?_, ?_⟩
 · show max c.first (freeTo c 1073741824).toNat = setN c
   unfold freeTo
   rw [if_pos (by omega)]
   omega
 · have : setN c = min (Co.common c) (now c) := by
    unfold setN
    rw [show Co.other c = 1 - c.me from rfl, hw]
    simp only
    omega
   omega

theorem acts_at {w : World} {ad : Option Addr} {len : Nat} (h : Acts w ad len) (X : World) (hX : Below w.heap.size w X) (j : Nat) (hj : j < len) : ∃ (c off : Nat) (kd f x : Int), ad = some ⟨c, off, none⟩ ∧ (0 ≤ x ∧ x ≤ 255) ∧
 X.cell? ⟨c, off + j * 3, none⟩ = some (.int .i64 kd) ∧ X.cell? ⟨c, off + j * 3 + 1, none⟩ = some (.int .i64 f) ∧ X.cell? ⟨c, off + j * 3 + 2, none⟩ = some (.int .u8 x) := by
 obtain ⟨c, off, kd, f, x, e1, e2, e3, e4, e5, e6⟩ := h j hj
 exact ⟨c, off, kd, f, x, e1, e3, (hX.cell (p := ⟨c, off + j * 3, none⟩) e2).trans e4, (hX.cell (p := ⟨c, off + j * 3 + 1, none⟩) e2).trans e5, (hX.cell (p := ⟨c, off + j * 3 + 2, none⟩) e2).trans e6⟩

theorem bounds_no (sd d wi me : Int) (ad : Option Addr) (len cap : Nat) (w : World) (htab : Tab w) (hc : cfgB d wi me = false) :
 Calls Tryz.prog 5 #[.agg #[.int .u32 sd, .int .i64 d, .int .i64 wi, .int .i64 me], .slice ad len cap] w fun e w' => e = .returned (.bool true) ∧ Below w.heap.size w w' := by
 have HB := hid (bal (br w) (.cells #[.int .u32 sd, .int .i64 d, .int .i64 wi, .int .i64 me] 24))
 have HA := hid (awake_c _ (htab.below htab.lt HB.out))
 have HC := hid hc
 have HN := hid (At.new w #[.int .u32 sd, .int .i64 d, .int .i64 wi, .int .i64 me] 24)
 clear hc htab
 go_enter Tryz.func5, Tryz.ntmps5
 go_wp2_with (first
  | (go_at_call 7; ((with_reducible refine HA.out.mono ?_); rintro e w1 ⟨rfl, h1⟩; obtain ⟨c0, c1, c2, c3⟩ := (HN.out.below h1).four))
  | (go_at_call 8; ((with_reducible refine (new_no _ _ _ _ _ HC.out).mono ?_); rintro e w2 ⟨rfl, h2⟩)))
 go_ret
 exact ⟨rfl, bt (bt HB.out h1) h2⟩

set_option maxHeartbeats 8000000 in
theorem bounds_yes (sd : Int) (d wi me : Nat) (ad : Option Addr) (len cap : Nat) (w : World) (htab : Tab w) (hsd : 0 ≤ sd ∧ sd < 4294967296) (ha : Acts w ad len) (hc : cfgB d wi me = true) :
 Calls Tryz.prog 5 #[.agg #[.int .u32 sd, .int .i64 d, .int .i64 wi, .int .i64 me], .slice ad len cap] w fun e w' => e = .returned (.bool true) ∧ Below w.heap.size w w' := by
 have hcb : d ≤ 8 ∧ wi ≤ 16 ∧ me < 2 := by unfold cfgB at hc; simp at hc; omega
 have HB := hid (bal (br w) (.cells #[.int .u32 sd, .int .i64 d, .int .i64 wi, .int .i64 me] 24))
 have HN := hid (At.new w #[.int .u32 sd, .int .i64 d, .int .i64 wi, .int .i64 me] 24)
 have HA := hid (awake_c _ (htab.below htab.lt HB.out))
 have HC := hid hc
 have HT := hid htab
 have HAc := hid (acts_at ha)
 clear hc htab ha
 go_enter Tryz.func5, Tryz.ntmps5
 go_upto_region 8 with (first
  | (go_at_call 7; ((with_reducible refine HA.out.mono ?_); rintro e w1 ⟨rfl, h1⟩; have HN1 := hid (HN.out.below h1); have HB1 := hid (bt HB.out h1); obtain ⟨c0, c1, c2, c3⟩ := HN1.out.four))
  | (go_at_call 8; ((with_reducible refine (new_c sd d wi me _ HC.out).mono ?_); rintro e w2 ⟨b, rfl, ⟨bf, FF, bs, ao, cap', hcp⟩, h2⟩)))
 have hT1 : Tab w1 := HT.out.below HT.out.lt HB1.out
 have HT1 := hid hT1
 have hI0 : Bw w1 w2 b ⟨d, wi, me, fun _ => Dl d, [beginS sd], [], 0⟩ (beginS sd) 0 #[.int .u32 sd, .int .i64 d, .int .i64 wi, .int .i64 me] wi (-1) w.heap.size :=
  ⟨⟨⟨bf, FF, bs, ao, cap', hcp⟩, h2⟩, ho_new hsd hcb.1 hcb.2.1 hcb.2.2, HN1.out.below h2, rfl, by omega⟩
 have HI := hid hI0
 clear hI0 hcp h2 hT1 c0 c1 c2 c3 HA HN HC h1
 go_loopg [7, 8] 200 (fun gk s7 s8 wr => ∃ (i : Nat) (c : C) (last : Int), gk + i = 200 ∧ s7 = .int .i64 last ∧ s8 = .int .i64 i ∧ Bw w1 wr b c (beginS sd) i #[.int .u32 sd, .int .i64 d, .int .i64 wi, .int .i64 me] wi last w.heap.size)
 case atStart => exact ⟨0, _, _, rfl, rfl, rfl, HI.out⟩
 case round =>
  obtain ⟨i, c, last, hgk, rfl, rfl, hI⟩ := hrel
  clear HI
  have HI := hid hI
  have hBw := bt HB1.out hI.lc.old
  have HBw := hid hBw
  by_cases hlen : i < len
  · by_cases h200 : i < 200
    · have hli : (i : Int) < (len : Int) := by omega
      have h2i : (i : Int) < 200 := by omega
      obtain ⟨ca, off, kd, f, x, rfl, hx, a0, a1, a2⟩ := HAc.out wr hBw i hlen
      clear hI hBw
      have HXn := hid (At.new wr #[.int .i64 kd, .int .i64 f, .int .u8 x] 36)
      have HXb := hid (bal (br wr) (.cells #[.int .i64 kd, .int .i64 f, .int .u8 x] 36))
      go_upto_region 11 with fail
      generalize hw : World.alloc _ _ = w3
      rw [hw] at HXn HXb
      have HI3 := hid (HI.out.below HXb.out)
      clear hw a0 a1 a2 HI HXb HBw
      generalize wr.heap.size = X at *
      obtain ⟨b0, b1, b2⟩ := HXn.out.three
      by_cases k1 : kd = 1
      · subst k1
        have HCl := hid (HI3.out.offer (by omega) x hx.1)
        go_upto_region 20 with (go_at_call 14; ((with_reducible refine HCl.out.mono ?_); rintro e w5 ⟨⟨y, z, rfl⟩, hB5, kd5⟩))
        have HA5 := hid (kd5 _ _ _ HXn.out (by decide))
        obtain ⟨c5, hc5⟩ : ∃ c5, (offerM c x) = c5 := ⟨_, rfl⟩
        rw [hc5] at hB5
        clear hc5 kd5 HCl HI3 b0 b1 b2
        have hbw := hB5
        have HSe := hid (hbw.lc.settled hbw.ho (by omega))
        have HBw5 := hid hbw
        clear hbw hB5
        go_upto_region 21 with (go_at_call 20; ((with_reducible refine HSe.out.mono ?_); rintro e w6 ⟨rfl, h6⟩))
        have hb6 := HBw5.out.below h6
        have HA6 := hid (HA5.out.below h6)
        clear HSe HBw5 HA5 h6
        have hah := hb6.ahead
        have hle := hb6.le
        obtain ⟨hlo1, hlo2, hlo3, hlo4⟩ := hb6.low
        have d1 : decide ((setN c5 : Int) - 1 < last) = false := by rw [decide_eq_false_iff_not]; omega
        have hwr : IntKind.i64.wrap ((Co.common c5 : Int) + (wi : Int)) = (Co.common c5 : Int) + (wi : Int) := IntWalk.i64_in _ (by omega)
        have d2 : decide ((Co.common c5 : Int) + (wi : Int) < (now c5 : Int)) = false := by rw [decide_eq_false_iff_not]; omega
        have HCu := hid (fun q => (hb6.below (bdn (br w6) q)).lc.current)
        have HCu0 := hid (hb6.below (bd1 (br w6))).lc.current
        have HCo0 := hid ((hb6.below (bd1 (br w6))).lc.common hb6.ho)
        have HCo := hid (fun q => (hb6.below (bdn (br w6) q)).lc.common hb6.ho)
        have q2 := hb6.cf.four.2.2.1
        have HB6 := hid hb6
        clear hb6 hah hle
        go_region_held3 (fun Y => Y.cell? ⟨w.heap.size, 2, none⟩ = some (.int .i64 (wi : Int)))
         (go_keep)
         (first
          | (go_at_call 13; ((with_reducible refine HCu0.out.mono ?_); rintro e w7 ⟨rfl, rfl⟩))
          | (go_at_call 24; ((with_reducible refine HCo0.out.mono ?_); rintro e w7 ⟨rfl, qq, rfl⟩))
          | (go_at_call 13; ((with_reducible refine (HCu.out _).mono ?_); rintro e w7 ⟨rfl, rfl⟩))
          | (go_at_call 24; ((with_reducible refine (HCo.out _).mono ?_); rintro e w7 ⟨rfl, qq, rfl⟩)))
        all_goals
         obtain ⟨e0, _, _⟩ := HA6.out.three
         go_wp2_with fail
         go_roundg (gk - 1)
         case measure => omega
         case rel => exact ⟨i + 1, c5, _, by omega, rfl, by go_num, ⟨(HB6.out.below (bdn (br w6) _)).lc, HB6.out.ho, (HB6.out.below (bdn (br w6) _)).cf, HB6.out.wi, Int.le_refl _⟩⟩
      by_cases k2 : kd = 2
      · subst k2
        have n1 : ((2 : Int) == 1) = false := by decide
        have HCl := hid (HI3.out.hear f x hx.1)
        go_upto_region 20 with (go_at_call 15; ((with_reducible refine HCl.out.mono ?_); rintro e w5 ⟨⟨z, rfl⟩, hB5, kd5⟩))
        have HA5 := hid (kd5 _ _ _ HXn.out (by decide))
        obtain ⟨c5, hc5⟩ : ∃ c5, (hearM c f x) = c5 := ⟨_, rfl⟩
        rw [hc5] at hB5
        clear hc5 kd5 HCl HI3 b0 b1 b2
        have hbw := hB5
        have HSe := hid (hbw.lc.settled hbw.ho (by omega))
        have HBw5 := hid hbw
        clear hbw hB5
        go_upto_region 21 with (go_at_call 20; ((with_reducible refine HSe.out.mono ?_); rintro e w6 ⟨rfl, h6⟩))
        have hb6 := HBw5.out.below h6
        have HA6 := hid (HA5.out.below h6)
        clear HSe HBw5 HA5 h6
        have hah := hb6.ahead
        have hle := hb6.le
        obtain ⟨hlo1, hlo2, hlo3, hlo4⟩ := hb6.low
        have d1 : decide ((setN c5 : Int) - 1 < last) = false := by rw [decide_eq_false_iff_not]; omega
        have hwr : IntKind.i64.wrap ((Co.common c5 : Int) + (wi : Int)) = (Co.common c5 : Int) + (wi : Int) := IntWalk.i64_in _ (by omega)
        have d2 : decide ((Co.common c5 : Int) + (wi : Int) < (now c5 : Int)) = false := by rw [decide_eq_false_iff_not]; omega
        have HCu := hid (fun q => (hb6.below (bdn (br w6) q)).lc.current)
        have HCu0 := hid (hb6.below (bd1 (br w6))).lc.current
        have HCo0 := hid ((hb6.below (bd1 (br w6))).lc.common hb6.ho)
        have HCo := hid (fun q => (hb6.below (bdn (br w6) q)).lc.common hb6.ho)
        have q2 := hb6.cf.four.2.2.1
        have HB6 := hid hb6
        clear hb6 hah hle
        go_region_held3 (fun Y => Y.cell? ⟨w.heap.size, 2, none⟩ = some (.int .i64 (wi : Int)))
         (go_keep)
         (first
          | (go_at_call 13; ((with_reducible refine HCu0.out.mono ?_); rintro e w7 ⟨rfl, rfl⟩))
          | (go_at_call 24; ((with_reducible refine HCo0.out.mono ?_); rintro e w7 ⟨rfl, qq, rfl⟩))
          | (go_at_call 13; ((with_reducible refine (HCu.out _).mono ?_); rintro e w7 ⟨rfl, rfl⟩))
          | (go_at_call 24; ((with_reducible refine (HCo.out _).mono ?_); rintro e w7 ⟨rfl, qq, rfl⟩)))
        all_goals
         obtain ⟨e0, _, _⟩ := HA6.out.three
         go_wp2_with fail
         go_roundg (gk - 1)
         case measure => omega
         case rel => exact ⟨i + 1, c5, _, by omega, rfl, by go_num, ⟨(HB6.out.below (bdn (br w6) _)).lc, HB6.out.ho, (HB6.out.below (bdn (br w6) _)).cf, HB6.out.wi, Int.le_refl _⟩⟩
      by_cases k3 : kd = 3
      · subst k3
        have n1 : ((3 : Int) == 1) = false := by decide
        have n2 : ((3 : Int) == 2) = false := by decide
        have HCl := hid (HI3.out.repair (by omega) HT1.out)
        go_upto_region 20 with (go_at_call 16; ((with_reducible refine HCl.out.mono ?_); rintro e w5 ⟨⟨z, rfl⟩, hB5, kd5⟩))
        have HA5 := hid (kd5 _ _ _ HXn.out (by decide))
        obtain ⟨c5, hc5⟩ : ∃ c5, (repairM stepP c) = c5 := ⟨_, rfl⟩
        rw [hc5] at hB5
        clear hc5 kd5 HCl HI3 b0 b1 b2
        have hbw := hB5
        have HSe := hid (hbw.lc.settled hbw.ho (by omega))
        have HBw5 := hid hbw
        clear hbw hB5
        go_upto_region 21 with (go_at_call 20; ((with_reducible refine HSe.out.mono ?_); rintro e w6 ⟨rfl, h6⟩))
        have hb6 := HBw5.out.below h6
        have HA6 := hid (HA5.out.below h6)
        clear HSe HBw5 HA5 h6
        have hah := hb6.ahead
        have hle := hb6.le
        obtain ⟨hlo1, hlo2, hlo3, hlo4⟩ := hb6.low
        have d1 : decide ((setN c5 : Int) - 1 < last) = false := by rw [decide_eq_false_iff_not]; omega
        have hwr : IntKind.i64.wrap ((Co.common c5 : Int) + (wi : Int)) = (Co.common c5 : Int) + (wi : Int) := IntWalk.i64_in _ (by omega)
        have d2 : decide ((Co.common c5 : Int) + (wi : Int) < (now c5 : Int)) = false := by rw [decide_eq_false_iff_not]; omega
        have HCu := hid (fun q => (hb6.below (bdn (br w6) q)).lc.current)
        have HCu0 := hid (hb6.below (bd1 (br w6))).lc.current
        have HCo0 := hid ((hb6.below (bd1 (br w6))).lc.common hb6.ho)
        have HCo := hid (fun q => (hb6.below (bdn (br w6) q)).lc.common hb6.ho)
        have q2 := hb6.cf.four.2.2.1
        have HB6 := hid hb6
        clear hb6 hah hle
        go_region_held3 (fun Y => Y.cell? ⟨w.heap.size, 2, none⟩ = some (.int .i64 (wi : Int)))
         (go_keep)
         (first
          | (go_at_call 13; ((with_reducible refine HCu0.out.mono ?_); rintro e w7 ⟨rfl, rfl⟩))
          | (go_at_call 24; ((with_reducible refine HCo0.out.mono ?_); rintro e w7 ⟨rfl, qq, rfl⟩))
          | (go_at_call 13; ((with_reducible refine (HCu.out _).mono ?_); rintro e w7 ⟨rfl, rfl⟩))
          | (go_at_call 24; ((with_reducible refine (HCo.out _).mono ?_); rintro e w7 ⟨rfl, qq, rfl⟩)))
        all_goals
         obtain ⟨e0, _, _⟩ := HA6.out.three
         go_wp2_with fail
         go_roundg (gk - 1)
         case measure => omega
         case rel => exact ⟨i + 1, c5, _, by omega, rfl, by go_num, ⟨(HB6.out.below (bdn (br w6) _)).lc, HB6.out.ho, (HB6.out.below (bdn (br w6) _)).cf, HB6.out.wi, Int.le_refl _⟩⟩
      by_cases k4 : kd = 4
      · subst k4
        have n1 : ((4 : Int) == 1) = false := by decide
        have n2 : ((4 : Int) == 2) = false := by decide
        have n3 : ((4 : Int) == 3) = false := by decide
        have HCl := hid (HI3.out.step (by omega) HT1.out)
        go_upto_region 20 with (go_at_call 17; ((with_reducible refine HCl.out.mono ?_); rintro e w5 ⟨⟨y, z, z2, rfl⟩, hB5, kd5⟩))
        have HA5 := hid (kd5 _ _ _ HXn.out (by decide))
        obtain ⟨c5, hc5⟩ : ∃ c5, (stepM stepP c) = c5 := ⟨_, rfl⟩
        rw [hc5] at hB5
        clear hc5 kd5 HCl HI3 b0 b1 b2
        have hbw := hB5
        have HSe := hid (hbw.lc.settled hbw.ho (by omega))
        have HBw5 := hid hbw
        clear hbw hB5
        go_upto_region 21 with (go_at_call 20; ((with_reducible refine HSe.out.mono ?_); rintro e w6 ⟨rfl, h6⟩))
        have hb6 := HBw5.out.below h6
        have HA6 := hid (HA5.out.below h6)
        clear HSe HBw5 HA5 h6
        have hah := hb6.ahead
        have hle := hb6.le
        obtain ⟨hlo1, hlo2, hlo3, hlo4⟩ := hb6.low
        have d1 : decide ((setN c5 : Int) - 1 < last) = false := by rw [decide_eq_false_iff_not]; omega
        have hwr : IntKind.i64.wrap ((Co.common c5 : Int) + (wi : Int)) = (Co.common c5 : Int) + (wi : Int) := IntWalk.i64_in _ (by omega)
        have d2 : decide ((Co.common c5 : Int) + (wi : Int) < (now c5 : Int)) = false := by rw [decide_eq_false_iff_not]; omega
        have HCu := hid (fun q => (hb6.below (bdn (br w6) q)).lc.current)
        have HCu0 := hid (hb6.below (bd1 (br w6))).lc.current
        have HCo0 := hid ((hb6.below (bd1 (br w6))).lc.common hb6.ho)
        have HCo := hid (fun q => (hb6.below (bdn (br w6) q)).lc.common hb6.ho)
        have q2 := hb6.cf.four.2.2.1
        have HB6 := hid hb6
        clear hb6 hah hle
        go_region_held3 (fun Y => Y.cell? ⟨w.heap.size, 2, none⟩ = some (.int .i64 (wi : Int)))
         (go_keep)
         (first
          | (go_at_call 13; ((with_reducible refine HCu0.out.mono ?_); rintro e w7 ⟨rfl, rfl⟩))
          | (go_at_call 24; ((with_reducible refine HCo0.out.mono ?_); rintro e w7 ⟨rfl, qq, rfl⟩))
          | (go_at_call 13; ((with_reducible refine (HCu.out _).mono ?_); rintro e w7 ⟨rfl, rfl⟩))
          | (go_at_call 24; ((with_reducible refine (HCo.out _).mono ?_); rintro e w7 ⟨rfl, qq, rfl⟩)))
        all_goals
         obtain ⟨e0, _, _⟩ := HA6.out.three
         go_wp2_with fail
         go_roundg (gk - 1)
         case measure => omega
         case rel => exact ⟨i + 1, c5, _, by omega, rfl, by go_num, ⟨(HB6.out.below (bdn (br w6) _)).lc, HB6.out.ho, (HB6.out.below (bdn (br w6) _)).cf, HB6.out.wi, Int.le_refl _⟩⟩
      by_cases k5 : kd = 5
      · subst k5
        have n1 : ((5 : Int) == 1) = false := by decide
        have n2 : ((5 : Int) == 2) = false := by decide
        have n3 : ((5 : Int) == 3) = false := by decide
        have n4 : ((5 : Int) == 4) = false := by decide
        go_upto_region 20 with fail
        have HA5 := HXn
        have hB5 := HI3.out
        obtain ⟨c5, hc5⟩ : ∃ c5, c = c5 := ⟨_, rfl⟩
        rw [hc5] at hB5
        obtain ⟨w5, hw5⟩ : ∃ w5, w3 = w5 := ⟨_, rfl⟩
        rw [hw5] at hB5 HA5 ⊢
        clear hc5 hw5 HI3 b0 b1 b2 HXn
        have hbw := hB5
        have HSe := hid (hbw.lc.settled hbw.ho (by omega))
        have HBw5 := hid hbw
        clear hbw hB5
        go_upto_region 21 with (go_at_call 20; ((with_reducible refine HSe.out.mono ?_); rintro e w6 ⟨rfl, h6⟩))
        have hb6 := HBw5.out.below h6
        have HA6 := hid (HA5.out.below h6)
        clear HSe HBw5 HA5 h6
        have hah := hb6.ahead
        have hle := hb6.le
        obtain ⟨hlo1, hlo2, hlo3, hlo4⟩ := hb6.low
        have d1 : decide ((setN c5 : Int) - 1 < last) = false := by rw [decide_eq_false_iff_not]; omega
        have hwr : IntKind.i64.wrap ((Co.common c5 : Int) + (wi : Int)) = (Co.common c5 : Int) + (wi : Int) := IntWalk.i64_in _ (by omega)
        have d2 : decide ((Co.common c5 : Int) + (wi : Int) < (now c5 : Int)) = false := by rw [decide_eq_false_iff_not]; omega
        have HCu := hid (fun q => (hb6.below (bdn (br w6) q)).lc.current)
        have HCu0 := hid (hb6.below (bd1 (br w6))).lc.current
        have HCo0 := hid ((hb6.below (bd1 (br w6))).lc.common hb6.ho)
        have HCo := hid (fun q => (hb6.below (bdn (br w6) q)).lc.common hb6.ho)
        have q2 := hb6.cf.four.2.2.1
        have HB6 := hid hb6
        clear hb6 hah hle
        go_region_held3 (fun Y => Y.cell? ⟨w.heap.size, 2, none⟩ = some (.int .i64 (wi : Int)))
         (go_keep)
         (first
          | (go_at_call 13; ((with_reducible refine HCu0.out.mono ?_); rintro e w7 ⟨rfl, rfl⟩))
          | (go_at_call 24; ((with_reducible refine HCo0.out.mono ?_); rintro e w7 ⟨rfl, qq, rfl⟩))
          | (go_at_call 13; ((with_reducible refine (HCu.out _).mono ?_); rintro e w7 ⟨rfl, rfl⟩))
          | (go_at_call 24; ((with_reducible refine (HCo.out _).mono ?_); rintro e w7 ⟨rfl, qq, rfl⟩)))
        all_goals
         obtain ⟨e0, _, _⟩ := HA6.out.three
         have HRp := hid (fun q => (HB6.out.below (bdn (br w6) q)).repair (by omega) HT1.out)
         have hRw := HB6.out.ho.repair (by omega)
         have hah6 := HB6.out.ahead
         go_upto_region 26 with (go_at_call 16; ((with_reducible refine (HRp.out _).mono ?_); rintro e w8 ⟨⟨rv, rfl⟩, hB8, _⟩))
         obtain ⟨r1, r2, r3, r4, r5, r6, r7⟩ := hRw
         have hfr := freed (wi := wi) r1 (by rw [r5]; exact r3) (by omega) (by rw [r4, r7]; exact hah6)
         have hfs := (hB8.ho.free 1073741824).2
         have HFr := hid (hB8.free (by omega) 1073741824)
         obtain ⟨c8, hc8⟩ : ∃ c8, repairM stepP c5 = c8 := ⟨_, rfl⟩
         rw [hc8] at hfr hfs HFr
         have HFS0 := hid hfs
         have HFR0 := hid hfr
         clear hfs hfr
         clear HRp hB8 hc8 r1 r2 r3 r4 r5 r6 r7 hah6 e0 HCu HCo HCu0 HCo0 HB6
         go_upto_region 27 with (go_at_call 18; ((with_reducible refine HFr.out.mono ?_); rintro e w9 ⟨⟨fv, rfl⟩, hB9, _⟩))
         have HN9 : Hid (now (freeM c8 1073741824) = now c8) := hid rfl
         have hfs := HFS0
         have hfr := HFR0
         obtain ⟨c9, hc9⟩ : ∃ c9, freeM c8 1073741824 = c9 := ⟨_, rfl⟩
         rw [hc9] at hB9 hfr hfs HN9
         have HSe := hid (hB9.lc.settled hB9.ho (by omega))
         have HB9 := hid hB9
         clear HFr hB9 hc9
         go_upto_region 28 with (go_at_call 20; ((with_reducible refine HSe.out.mono ?_); rintro e w10 ⟨rfl, h10⟩))
         have hb10 := HB9.out.below h10
         have hK : ((now c9 : Int) + 1 - c9.first) = (now c9 : Int) - ((setN c9 : Int) - 1) := by rw [hfr.out.1, hfs.out]; omega
         have hlow := hb10.low
         have HKe : Hid (∀ Y, Below w10.heap.size w10 Y → Calls Tryz.prog 25 #[.pointer (some ⟨b, 0, none⟩)] Y fun e w' => e = .returned (.int .i64 ((now c9 : Int) - ((setN c9 : Int) - 1))) ∧ Below Y.heap.size Y w') := hid (fun Y hY => by
          have := (hb10.below hY).lc.kept hb10.ho (by omega)
          rw [hK] at this
          exact this)
         have HCu := hid (fun (Y : World) (hY : Below w10.heap.size w10 Y) => (hb10.below hY).lc.current)
         have HCf := hid (fun (Y : World) (hY : Below w10.heap.size w10 Y) => (hb10.below hY).cf.four.2.2.1)
         have q2 := hb10.cf.four.2.2.1
         have hwr1 : IntKind.i64.wrap ((wi : Int) + 1) = (wi : Int) + 1 := IntWalk.i64_in _ (by omega)
         have hwr2 : IntKind.i64.wrap ((now c9 : Int) - ((setN c9 : Int) - 1)) = (now c9 : Int) - ((setN c9 : Int) - 1) := IntWalk.i64_in _ (by omega)
         have d5 : decide ((wi : Int) + 1 < (now c9 : Int) - ((setN c9 : Int) - 1)) = false := by
          rw [decide_eq_false_iff_not]
          have h7 := hfr.out.2
          rw [HN9.out, hfs.out]
          omega
         have HB10 := hid hb10
         clear hb10 hK HSe HB9 h10 hfr hfs hlow HN9 HFS0 HFR0
         generalize hkv : (now c9 : Int) - ((setN c9 : Int) - 1) = kv at *
         go_region_held3 (fun Y => Y.cell? ⟨w.heap.size, 2, none⟩ = some (.int .i64 (wi : Int)))
          (first | go_keep | exact cY)
          (first
           | (go_at_call 13; ((with_reducible refine (HCu.out _ (by first | with_reducible assumption | exact bd1 (br w10))).mono ?_); rintro e w12 ⟨rfl, rfl⟩))
           | (go_at_call 25; ((with_reducible refine (HKe.out _ (by first | with_reducible assumption | exact bd1 (br w10))).mono ?_); rintro e w11 ⟨rfl, h11⟩; have hY11 : Below w10.heap.size w10 w11 := bt (by first | with_reducible assumption | exact bd1 (br w10)) h11; have cY := HCf.out w11 hY11)))
         all_goals
          go_wp2_with fail
          go_roundg (gk - 1)
          case measure => omega
          case rel =>
           have fin := HB10.out.below (by with_reducible assumption)
           exact ⟨i + 1, c9, _, by omega, rfl, by go_num, ⟨fin.lc, fin.ho, fin.cf, fin.wi, Int.le_refl _⟩⟩
      · have n5 : (kd == 5) = false := by simpa using k5
        have n1 : (kd == 1) = false := by simpa using k1
        have n2 : (kd == 2) = false := by simpa using k2
        have n3 : (kd == 3) = false := by simpa using k3
        have n4 : (kd == 4) = false := by simpa using k4
        go_upto_region 20 with fail
        have HA5 := HXn
        have hB5 : Bw w1 w3 b c (beginS sd) (i + 1) #[.int .u32 sd, .int .i64 d, .int .i64 wi, .int .i64 me] wi last w.heap.size := ⟨HI3.out.lc, HI3.out.ho.more (Nat.le_succ i), HI3.out.cf, HI3.out.wi, HI3.out.le⟩
        obtain ⟨c5, hc5⟩ : ∃ c5, c = c5 := ⟨_, rfl⟩
        rw [hc5] at hB5
        obtain ⟨w5, hw5⟩ : ∃ w5, w3 = w5 := ⟨_, rfl⟩
        rw [hw5] at hB5 HA5 ⊢
        clear hc5 hw5 HI3 b0 b1 b2 HXn
        have hbw := hB5
        have HSe := hid (hbw.lc.settled hbw.ho (by omega))
        have HBw5 := hid hbw
        clear hbw hB5
        go_upto_region 21 with (go_at_call 20; ((with_reducible refine HSe.out.mono ?_); rintro e w6 ⟨rfl, h6⟩))
        have hb6 := HBw5.out.below h6
        have HA6 := hid (HA5.out.below h6)
        clear HSe HBw5 HA5 h6
        have hah := hb6.ahead
        have hle := hb6.le
        obtain ⟨hlo1, hlo2, hlo3, hlo4⟩ := hb6.low
        have d1 : decide ((setN c5 : Int) - 1 < last) = false := by rw [decide_eq_false_iff_not]; omega
        have hwr : IntKind.i64.wrap ((Co.common c5 : Int) + (wi : Int)) = (Co.common c5 : Int) + (wi : Int) := IntWalk.i64_in _ (by omega)
        have d2 : decide ((Co.common c5 : Int) + (wi : Int) < (now c5 : Int)) = false := by rw [decide_eq_false_iff_not]; omega
        have HCu := hid (fun q => (hb6.below (bdn (br w6) q)).lc.current)
        have HCu0 := hid (hb6.below (bd1 (br w6))).lc.current
        have HCo0 := hid ((hb6.below (bd1 (br w6))).lc.common hb6.ho)
        have HCo := hid (fun q => (hb6.below (bdn (br w6) q)).lc.common hb6.ho)
        have q2 := hb6.cf.four.2.2.1
        have HB6 := hid hb6
        clear hb6 hah hle
        go_region_held3 (fun Y => Y.cell? ⟨w.heap.size, 2, none⟩ = some (.int .i64 (wi : Int)))
         (go_keep)
         (first
          | (go_at_call 13; ((with_reducible refine HCu0.out.mono ?_); rintro e w7 ⟨rfl, rfl⟩))
          | (go_at_call 24; ((with_reducible refine HCo0.out.mono ?_); rintro e w7 ⟨rfl, qq, rfl⟩))
          | (go_at_call 13; ((with_reducible refine (HCu.out _).mono ?_); rintro e w7 ⟨rfl, rfl⟩))
          | (go_at_call 24; ((with_reducible refine (HCo.out _).mono ?_); rintro e w7 ⟨rfl, qq, rfl⟩)))
        all_goals
         obtain ⟨e0, _, _⟩ := HA6.out.three
         go_wp2_with fail
         go_roundg (gk - 1)
         case measure => omega
         case rel => exact ⟨i + 1, c5, _, by omega, rfl, by go_num, ⟨(HB6.out.below (bdn (br w6) _)).lc, HB6.out.ho, (HB6.out.below (bdn (br w6) _)).cf, HB6.out.wi, Int.le_refl _⟩⟩
    · have h2i : ¬ (i : Int) < 200 := by omega
      have hli : (i : Int) < (len : Int) := by omega
      go_wp2_with fail
      go_ret
      exact ⟨rfl, HBw.out⟩
  · have hli : ¬ (i : Int) < (len : Int) := by omega
    go_wp2_with fail
    go_ret
    exact ⟨rfl, HBw.out⟩
end
theorem bounds_w (x : Int × Int × Int × Int) (ad : Option Addr) (len cap : Nat) (w : World) (htab : Tab w) (hx : 0 ≤ x.1 ∧ x.1 < 4294967296) (ha : Acts w ad len) :
 Calls Tryz.prog 5 #[.agg #[.int .u32 x.1, .int .i64 x.2.1, .int .i64 x.2.2.1, .int .i64 x.2.2.2], .slice ad len cap] w fun e w' => e = .returned (.bool true) ∧ Below w.heap.size w w' := by
 cases hc : cfgB x.2.1 x.2.2.1 x.2.2.2 with
 | false => exact bounds_no _ _ _ _ _ _ _ _ htab hc
 | true =>
  have h : 0 ≤ x.2.1 ∧ 0 ≤ x.2.2.1 ∧ 0 ≤ x.2.2.2 := by unfold cfgB at hc; simp at hc; omega
  have e1 : ((x.2.1.toNat : Nat) : Int) = x.2.1 := by omega
  have e2 : ((x.2.2.1.toNat : Nat) : Int) = x.2.2.1 := by omega
  have e3 : ((x.2.2.2.toNat : Nat) : Int) = x.2.2.2 := by omega
  have := bounds_yes x.1 x.2.1.toNat x.2.2.1.toNat x.2.2.2.toNat ad len cap w htab hx ha (by rw [e1, e2, e3]; exact hc)
  rw [e1, e2, e3] at this
  exact this
end Go.Proofs.YtfclnhmijjlhdaaGreatDoor.Cr
