/- The document's Player that is up (layer 12, game). -/
import Derived.Test.YtigjflacinlafaaGreatDoorGmRd
import Derived.Test.YtigjflacinlafaaGreatDoorShD
import Derived.Deep.DeepCutAuto
import Derived.Deep.RegionWith
namespace Go.Proofs.YtigjflacinlafaaGreatDoor.Gm
open Go.RowKit Go.Proofs.YtigjflacinlafaaGreatDoor.Fx Go.Proofs.YtigjflacinlafaaGreatDoor.Tg Go.Proofs.YtigjflacinlafaaGreatDoor.Dc
open Go.Proofs.YtigjflacinlafaaGreatDoor.Ev (Ev Ky addR pageI At ecs Pg Evs)
open Go.Proofs.YtigjflacinlafaaGreatDoor.Sh (In32 vec box insideB touchB slI mvP mvV wallI)
set_option linter.unusedVariables false

set_option maxHeartbeats 4000000 in
theorem stB_row2 (s : St) {k : Nat} (hk : k < 6) (x : Bu) : (List.take (24 + k * 6) (stC s) ++ buC x ++ List.drop (24 + k * 6 + 6) (stC s)).toArray = (stC (setS s k x)).toArray := by
 have hh : k = 0 ∨ k = 1 ∨ k = 2 ∨ k = 3 ∨ k = 4 ∨ k = 5 := by omega
 rcases hh with rfl | rfl | rfl | rfl | rfl | rfl <;> rfl
theorem stB_ow (s : St) {k : Nat} (hk : k < 6) : (stC s)[24 + k * 6 + 4]? = some (.int .i64 (shS s k).ow) := by
 have hh : k = 0 ∨ k = 1 ∨ k = 2 ∨ k = 3 ∨ k = 4 ∨ k = 5 := by omega
 rcases hh with rfl | rfl | rfl | rfl | rfl | rfl <;> rfl
theorem plC_slf2 (x : Pl) : ∀ j v, (plC x)[j]? = some v → (plA x)[0 + j]? = some v := by
 intro j v h
 rw [Nat.zero_add]
 exact (List.getElem?_toArray).trans h
theorem pls_set (s : St) {t : Nat} (ht : t < 2) (p : Pl) : plS (setP s t p) t = p := by
 have hh : t = 0 ∨ t = 1 := by omega
 rcases hh with rfl | rfl <;> rfl
theorem shs_set (s : St) (t : Nat) (p : Pl) (k : Nat) : shS (setP s t p) k = shS s k := by
 unfold setP
 split
 · match k with
   | 0 => rfl
   | 1 => rfl
   | 2 => rfl
   | 3 => rfl
   | 4 => rfl
   | _ + 5 => rfl
 · match k with
   | 0 => rfl
   | 1 => rfl
   | 2 => rfl
   | 3 => rfl
   | 4 => rfl
   | _ + 5 => rfl
theorem free_set (s : St) (t : Nat) (p : Pl) : freeS (setP s t p) = freeS s := by
 unfold freeS
 simp only [shs_set]
theorem fire_cond {s : St} {t : Nat} (ht : t < 2) {a : Int} {p : Pl} {l : List Ev} (h : ¬ (a / 16 % 2 = 1 ∧ p.co = 0)) : fireP t a (setP s t p, l) = (setP s t p, l) := by
 unfold fireP
 rw [if_neg]
 dsimp only
 rw [pls_set s ht]
 exact h
theorem fire_none {s : St} {t : Nat} (ht : t < 2) {a : Int} {p : Pl} {l : List Ev} (h : ∀ j, j < 6 → (shS s j).ow ≠ 0) : fireP t a (setP s t p, l) = (setP s t p, l) := by
 unfold fireP fireQ
 have e : freeS (setP s t p) = none := by rw [free_set]; exact free_none h
 dsimp only
 rw [e]
 split <;> rfl
theorem fire_yes {s : St} {t : Nat} (ht : t < 2) {a : Int} {p : Pl} {l : List Ev} {j : Nat} (hj : j < 6) (h : freeS s = some j) (hc : a / 16 % 2 = 1 ∧ p.co = 0) :
 fireP t a (setP s t p, l) = (setP (setS s j (shotP ((t : Int) + 1) p)) t { p with co := 8 }, tel s.fr l ((t : Int) + 1) 1 p.ax) := by
 unfold fireP fireQ
 have e : freeS (setP s t p) = some j := by rw [free_set]; exact h
 dsimp only
 rw [pls_set s ht, if_pos hc, e, (setP_keeps s t p).1]
 dsimp only
 have h2 : setP (setS (setP s t p) j (shotP ((t : Int) + 1) p)) t { p with co := 8 } = setP (setS s j (shotP ((t : Int) + 1) p)) t { p with co := 8 } := by
  have hh : t = 0 ∨ t = 1 := by omega
  have hk : j = 0 ∨ j = 1 ∨ j = 2 ∨ j = 3 ∨ j = 4 ∨ j = 5 := by omega
  rcases hh with rfl | rfl <;> rcases hk with rfl | rfl | rfl | rfl | rfl | rfl <;> rfl
 rw [h2]
/-- how far the loop that fires has come. -/
def Fi (t : Nat) (a : Int) (s : St) (p : Pl) (l : List Ev) (k : Nat) (S : St) (Pk : Pl) (lk : List Ev) : Prop :=
 (s = S ∧ p = Pk ∧ l = lk ∧ ∀ j, j < k → (shS s j).ow ≠ 0) ∨ (∃ j, j < 6 ∧ j < k ∧ freeS s = some j ∧ a / 16 % 2 = 1 ∧ p.co = 0 ∧ S = setS s j (shotP ((t : Int) + 1) p) ∧ Pk = { p with co := 8 } ∧ lk = tel s.fr l ((t : Int) + 1) 1 p.ax)
theorem at_ne {w : World} {b c : Nat} {cs ds : Array Value} {T U : TypeId} (h : At w b cs T) (k : At w c ds U) (hn : T ≠ U) : b ≠ c := by
 intro e
 subst e
 have h2 : w.heap[b]? = some (.cells cs T (0, 0)) := h
 have := h2.symm.trans k
 simp at this
 exact hn this.2
theorem evs_off {w : World} {v : Value} {l : List Ev} (h : Evs w v l) : l = [] ∨ ∀ i, v.ownBlock = some i → i ≠ w.heap.size := by
 obtain ⟨a, L, cap, rfl, h1, _, _, h4⟩ := h
 by_cases hl : l = []
 · exact .inl hl
 · obtain ⟨b, o, rfl, hb, _⟩ := h4 (List.length_pos_iff.2 hl)
   refine .inr fun k hk => ?_
   have : b = k := by simpa [Value.ownBlock] using hk
   omega
theorem Rm.other {w W : World} {s : St} {p : Pl} {v0 v : Value} {l : List Ev} (h : Rm w W s p v0 v l) {B : Nat} (hB : w.heap.size + 1 + 1 < B) (ho : l = [] ∨ ∀ i, v.ownBlock = some i → i ≠ B) (j : Nat) (u : Value) : Rm w (W.setCell ⟨B, j, none⟩ u) s p v0 v l :=
 ⟨h.st.far (by omega) u, h.res.far (by omega) u, h.pl.far (by omega) u, evs_setc h.ev ho j u, frv_set h.frv (size_set _ _ _), h.off, h.old.setCell (p := ⟨B, j, none⟩) (by show w.heap.size ≤ B; omega) u⟩
theorem wall_pos (p q u v a b c d : Int) : 0 ≤ wallI p q u v a b c d := by
 unfold wallI Sh.mvW
 repeat' split
 all_goals decide
def leftI (a f : Int) : Int := if a % 2 = 1 then (f + 65536 - 1024) % 65536 else f
def rightI (a f : Int) : Int := if a / 2 % 2 = 1 then (f + 1024) % 65536 else f
theorem turn_two (a f : Int) (hf : 0 ≤ f ∧ f ≤ 65535) : turnI f a = rightI a (leftI a f) := by
 unfold turnI rightI leftI
 split <;> split <;> omega
theorem left_bd (a f : Int) (hf : 0 ≤ f ∧ f ≤ 65535) : 0 ≤ leftI a f ∧ leftI a f ≤ 65535 := by
 unfold leftI
 split <;> omega

set_option maxRecDepth 100000 in
set_option maxHeartbeats 40000000 in
theorem rup_c (t : Nat) (ht : t < 2) (a : Int) (ha : 0 ≤ a ∧ a ≤ 63) (s : St) (v : Value) (l : List Ev) (w : World) (h : Evs w v l) (hi : pageI s.fr l) (hfr : 0 ≤ s.fr) (hp : Mp (plS s t)) (hd : (plS s t).dn = 0) :
 Calls Tryz.prog 17 #[.agg (stC s).toArray, v, .int .i64 t, .int .i64 a] w fun e w' => ∃ v', e = .returned (.tuple #[.agg (stC (upP t a (s, l)).1).toArray, v']) ∧ Evs w' v' (upP t a (s, l)).2 ∧ Below w.heap.size w w' ∧ Ev.Frv w w' v v' := by
 have HI := hid (stC_pt s t ht)
 have HRn := hid (fun x => rm_new w s x v l h)
 have HAn := hid ((At.new w (stC s).toArray 35).more (.cells (stC zeroS).toArray 35))
 have HU : Hid (upP t a (s, l) = fireP t a (setP s t (moveP s.fr (t + 1) (driveP s.fr (t + 1) a (coolP a (plS s t), l))).1, (moveP s.fr (t + 1) (driveP s.fr (t + 1) a (coolP a (plS s t), l))).2)) := hid rfl
 have HL := hid hi
 have ht0 : (0 : Int) ≤ (t : Int) := by omega
 have ht1 : (t : Int) < 2 := by omega
 generalize plS s t = x at HI hp hd HU
 obtain ⟨ax, ay, vx, vy, fa, hh, co, wi, dn, sc⟩ := x
 obtain rfl : dn = 0 := hd
 have HR0 := hid (HRn.out ⟨ax, ay, vx, vy, fa, hh, co, wi, 0, sc⟩)
 have HM := hid (Mp.cool hp a)
 have hcb : 0 ≤ co ∧ co ≤ 8 := hp.co
 have hwb : 0 ≤ wi ∧ wi ≤ 20 := hp.wi
 have hfb : 0 ≤ fa ∧ fa ≤ 65535 := hp.fa
 have hlb := left_bd a fa hfb
 obtain ⟨c, HC⟩ : ∃ c, Hid (c = coolI co) := ⟨_, hid rfl⟩
 obtain ⟨q, HW⟩ : ∃ c, Hid (c = coolI wi) := ⟨_, hid rfl⟩
 obtain ⟨f, HF⟩ : ∃ c, Hid (c = leftI a fa) := ⟨_, hid rfl⟩
 obtain ⟨g, HG⟩ : ∃ c, Hid (c = rightI a f) := ⟨_, hid rfl⟩
 have hP : coolP a ⟨ax, ay, vx, vy, fa, hh, co, wi, 0, sc⟩ = ⟨ax, ay, vx, vy, g, hh, c, q, 0, sc⟩ := by
  rw [HG.out, HF.out, ← turn_two a fa hfb, HC.out, HW.out]
  rfl
 rw [hP] at HM HU
 clear hP
 rw [← HF.out] at hlb
 clear HRn h hp hi
 generalize hC : stC s = cs at HAn HR0
 go_enter Tryz.func17, Tryz.ntmps17
 go_upto_region 1 with fail
 generalize hw : World.alloc (World.alloc w _) _ = w0
 have HA0 : Hid (At w0 w.heap.size (stC s).toArray 35) := hid (by rw [← hw, hC]; exact HAn.out)
 have HR1 : Hid (Rm w (w0.alloc (.cells (plA ⟨ax, ay, vx, vy, fa, hh, co, wi, 0, sc⟩) 29)) s ⟨ax, ay, vx, vy, fa, hh, co, wi, 0, sc⟩ v v l) := hid (by rw [← hw]; exact HR0.out)
 have HZ : Hid (w0.heap.size = w.heap.size + 1 + 1) := hid (by rw [← hw]; simp)
 clear hw HAn HR0
 subst hC
 go_upto_region 2 with ((with_reducible show wpList _ _ _ _ _ _); refine wpList_load_at rfl 29 _ rfl w.heap.size (4 + t * 10) rfl 35 _ (plC ⟨ax, ay, vx, vy, fa, hh, co, wi, 0, sc⟩) (0, 0) _ HA0.out Tryz.underlying29 rfl (by kernel_rfl) HI.out ?_)
 have hz : w0.heap.size = w.heap.size + 1 + 1 := HZ.out
 generalize World.alloc w0 _ = w1 at HR1 ⊢
 rw [hz]
 clear hz HZ HA0
 have c0 : w1.cell? ⟨w.heap.size, 0, none⟩ = some (.int .i64 s.fr) := st_at HR1.out.st 0
 obtain ⟨p0, p1, p2, p3, p4, p5, p6, p7, p8, p9⟩ := at_pl HR1.out.pl; (try dsimp only at p0 p1 p2 p3 p4 p5 p6 p7 p8 p9); have pf := HR1.out.pl.frozen
 go_upto_if 76 with fail
 go_cut [11] (fun s11 wx => s11 = .int .i64 s.fr ∧ Rm w wx s ⟨ax, ay, vx, vy, fa, hh, c, wi, 0, sc⟩ v v l)
 case first => as_aux_lemma =>
  by_cases q1 : 0 < co
  · have HE := hid (show c = co - 1 from HC.out.trans (if_pos q1))
    go_wp2_with fail
    go_meet
    case rel => rw [HE.out]; exact ⟨rfl, HR1.out.setp rfl⟩
  · have HE := hid (show c = co from HC.out.trans (if_neg q1))
    go_wp2_with fail
    go_meet
    case rel => rw [HE.out]; exact ⟨rfl, HR1.out⟩
 case rest =>
  obtain ⟨rfl, hcut⟩ := hcut
  have HR2 := hid hcut
  clear hcut HR1 c0
  clear p0 p1 p2 p3 p4 p5 p6 p7 p8 p9 pf
  obtain ⟨p0, p1, p2, p3, p4, p5, p6, p7, p8, p9⟩ := at_pl HR2.out.pl; (try dsimp only at p0 p1 p2 p3 p4 p5 p6 p7 p8 p9); have pf := HR2.out.pl.frozen
  go_upto_if 83 with fail
  go_cut [11] (fun s11 wx => s11 = .int .i64 s.fr ∧ Rm w wx s ⟨ax, ay, vx, vy, fa, hh, c, q, 0, sc⟩ v v l)
  case first => as_aux_lemma =>
   by_cases q1 : 0 < wi
   · have HE := hid (show q = wi - 1 from HW.out.trans (if_pos q1))
     go_wp2_with fail
     go_meet
     case rel => rw [HE.out]; exact ⟨rfl, HR2.out.setp rfl⟩
   · have HE := hid (show q = wi from HW.out.trans (if_neg q1))
     go_wp2_with fail
     go_meet
     case rel => rw [HE.out]; exact ⟨rfl, HR2.out⟩
  case rest => as_aux_lemma =>
   obtain ⟨rfl, hcut⟩ := hcut
   have HR3 := hid hcut
   clear hcut HR2
   clear p0 p1 p2 p3 p4 p5 p6 p7 p8 p9 pf
   obtain ⟨p0, p1, p2, p3, p4, p5, p6, p7, p8, p9⟩ := at_pl HR3.out.pl; (try dsimp only at p0 p1 p2 p3 p4 p5 p6 p7 p8 p9); have pf := HR3.out.pl.frozen
   obtain ⟨ha0, ha1⟩ := ha
   go_upto_if 90 with fail
   go_cut [11] (fun s11 wx => s11 = .int .i64 s.fr ∧ Rm w wx s ⟨ax, ay, vx, vy, f, hh, c, q, 0, sc⟩ v v l)
   case first => as_aux_lemma =>
    have e2 : a % 2 = 0 ∨ a % 2 = 1 := by omega
    rcases e2 with e2 | e2
    · have HE := hid (show f = fa from HF.out.trans (if_neg (by omega)))
      have hb : (a % 2 == 1) = false := by rw [e2]; rfl
      go_wp2_with fail
      go_meet
      case rel => rw [HE.out]; exact ⟨rfl, HR3.out⟩
    · have HE := hid (show f = (fa + 65536 - 1024) % 65536 from HF.out.trans (if_pos e2))
      have hb : (a % 2 == 1) = true := by rw [e2]; rfl
      go_wp2_with fail
      go_meet
      case rel => rw [HE.out]; exact ⟨rfl, HR3.out.setp rfl⟩
   case rest =>
    obtain ⟨rfl, hcut⟩ := hcut
    have HR4 := hid hcut
    clear hcut HR3
    clear p0 p1 p2 p3 p4 p5 p6 p7 p8 p9 pf
    obtain ⟨p0, p1, p2, p3, p4, p5, p6, p7, p8, p9⟩ := at_pl HR4.out.pl; (try dsimp only at p0 p1 p2 p3 p4 p5 p6 p7 p8 p9); have pf := HR4.out.pl.frozen
    go_upto_if 100 with fail
    go_cut [11] (fun s11 wx => s11 = .int .i64 s.fr ∧ Rm w wx s ⟨ax, ay, vx, vy, g, hh, c, q, 0, sc⟩ v v l)
    case first => as_aux_lemma =>
     have e2 : a / 2 % 2 = 0 ∨ a / 2 % 2 = 1 := by omega
     rcases e2 with e2 | e2
     · have HE := hid (show g = f from HG.out.trans (if_neg (by omega)))
       have hb : (a / 2 % 2 == 1) = false := by rw [e2]; rfl
       go_wp2_with fail
       go_meet
       case rel => rw [HE.out]; exact ⟨rfl, HR4.out⟩
     · have HE := hid (show g = (f + 1024) % 65536 from HG.out.trans (if_pos e2))
       have hb : (a / 2 % 2 == 1) = true := by rw [e2]; rfl
       go_wp2_with fail
       go_meet
       case rel => rw [HE.out]; exact ⟨rfl, HR4.out.setp rfl⟩
    case rest => as_aux_lemma =>
     obtain ⟨rfl, hcut⟩ := hcut
     have HR5 := hid hcut
     clear p0 p1 p2 p3 p4 p5 p6 p7 p8 p9 pf
     clear hcut HR4 HC HW HF HG hcb hwb hfb hlb
     generalize hP : (⟨ax, ay, vx, vy, g, hh, c, q, 0, sc⟩ : Pl) = P4 at HR5 HM HU
     clear hP
     obtain ⟨p0, p1, p2, p3, p4, p5, p6, p7, p8, p9⟩ := at_pl HR5.out.pl; (try dsimp only at p0 p1 p2 p3 p4 p5 p6 p7 p8 p9); have pf := HR5.out.pl.frozen
     obtain ⟨m1, m2, m3, m4⟩ : In32 P4.vx ∧ In32 P4.vy ∧ (0 ≤ P4.fa ∧ P4.fa ≤ 65535) ∧ (-4194304 ≤ P4.ax ∧ P4.ax ≤ 4194304) := ⟨HM.out.vx, HM.out.vy, HM.out.fa, HM.out.ax⟩
     go_upto_if 109 with fail
     go_cut [11] (fun s11 wx => s11 = .int .i64 s.fr ∧ Rm w wx s (brakeP a P4) v v l)
     case first => as_aux_lemma =>
      have e2 : a / 8 % 2 = 0 ∨ a / 8 % 2 = 1 := by omega
      rcases e2 with e2 | e2
      · have HE := hid (show brakeP a P4 = P4 from if_neg (by omega))
        have hb : (a / 8 % 2 == 1) = false := by rw [e2]; rfl
        go_wp2_with fail
        go_meet
        case rel => rw [HE.out]; exact ⟨rfl, HR5.out⟩
      · have HE := hid (show brakeP a P4 = { P4 with vx := satI (P4.vx * 32768 / 65536), vy := satI (P4.vy * 32768 / 65536) } from if_pos e2)
        have hb : (a / 8 % 2 == 1) = true := by rw [e2]; rfl
        have HSc := fun W => Sh.rscale_c P4.vx P4.vy 32768 m1 m2 (by decide) W
        go_wp2_with (go_at_call 38; ((with_reducible refine (HSc _).mono ?_); rintro e w2 ⟨rfl, g2⟩; have HR6 := hid (HR5.out.below g2); obtain ⟨p0, p1, p2, p3, p4, p5, p6, p7, p8, p9⟩ := at_pl HR6.out.pl; (try dsimp only at p0 p1 p2 p3 p4 p5 p6 p7 p8 p9); have pf := HR6.out.pl.frozen))
        go_meet
        case rel => rw [HE.out]; exact ⟨rfl, (HR6.out.setp (j := 2) (p' := { P4 with vx := satI (P4.vx * 32768 / 65536) }) rfl).setp (j := 3) rfl⟩
     case rest =>
      obtain ⟨rfl, hcut⟩ := hcut
      have HR6 := hid hcut
      have HM5 := hid (Mp.brake HM.out a)
      clear p0 p1 p2 p3 p4 p5 p6 p7 p8 p9 pf
      clear hcut HR5 m1 m2 m3 m4 HM
      have HU5 : Hid (upP t a (s, l) = fireP t a (setP s t (moveP s.fr (t + 1) (dashP s.fr (t + 1) a (thrustP s.fr (t + 1) a (brakeP a P4, l)))).1, (moveP s.fr (t + 1) (dashP s.fr (t + 1) a (thrustP s.fr (t + 1) a (brakeP a P4, l)))).2)) := hid HU.out
      clear HU
      generalize brakeP a P4 = P5 at HR6 HM5 HU5
      clear P4
      obtain ⟨p0, p1, p2, p3, p4, p5, p6, p7, p8, p9⟩ := at_pl HR6.out.pl; (try dsimp only at p0 p1 p2 p3 p4 p5 p6 p7 p8 p9); have pf := HR6.out.pl.frozen
      obtain ⟨m1, m2, m3, m4⟩ : In32 P5.vx ∧ In32 P5.vy ∧ (0 ≤ P5.fa ∧ P5.fa ≤ 65535) ∧ (-4194304 ≤ P5.ax ∧ P5.ax ≤ 4194304) := ⟨HM5.out.vx, HM5.out.vy, HM5.out.fa, HM5.out.ax⟩
      have HTold : Hid (∀ W, Evs W v l → Calls Tryz.prog 19 #[v, .int .i64 s.fr, .int .i64 ((t : Int) + 1), .int .i64 8, .int .i64 4096, .int .i64 1, .int .i64 8, .int .i32 P5.ax] W fun r w' => ∃ v', r = .returned v' ∧ Evs w' v' (tel s.fr l ((t : Int) + 1) 8 P5.ax) ∧ Below W.heap.size W w' ∧ Ev.Frv W w' v v') := hid (fun W hv => rtold_c 8 (by decide) (by decide) v l s.fr ((t : Int) + 1) P5.ax W hv HL.out.2.2.1 ⟨by omega, by omega⟩ m4)
      go_upto_if 117 with fail
      go_cut [1, 11] (fun s1 s11 wx => ∃ v', s1 = v' ∧ s11 = .int .i64 s.fr ∧ Rm w wx s (thrustP s.fr (t + 1) a (P5, l)).1 v v' (thrustP s.fr (t + 1) a (P5, l)).2)
      case first => as_aux_lemma =>
       have e2 : a / 4 % 2 = 0 ∨ a / 4 % 2 = 1 := by omega
       rcases e2 with e2 | e2
       · have HE := hid (show thrustP s.fr (t + 1) a (P5, l) = (P5, l) from if_neg (by omega))
         have hb : (a / 4 % 2 == 1) = false := by rw [e2]; rfl
         go_wp2_with fail
         go_meet
         case rel => rw [HE.out]; exact ⟨v, rfl, rfl, HR6.out⟩
       · have hb : (a / 4 % 2 == 1) = true := by rw [e2]; rfl
         have HWay := fun W => rway_c P5.fa 8192 m3 (by decide) W
         have HPlus := fun W => Sh.rplus_c P5.vx P5.vy (wayX P5.fa 8192) (wayY P5.fa 8192) m1 m2 (sat_bd _) (sat_bd _) W
         have HE : Hid (thrustP s.fr (t + 1) a (P5, l) = ({ P5 with vx := satI (P5.vx + wayX P5.fa 8192), vy := satI (P5.vy + wayY P5.fa 8192) }, if s.fr % 8 = 0 then tel s.fr l (t + 1) 8 P5.ax else l)) := hid (if_pos e2)
         generalize wayX P5.fa 8192 = X at HWay HPlus HE
         generalize wayY P5.fa 8192 = Y at HWay HPlus HE
         go_upto_region 23 with fail
         go_cut [1, 11] (fun s1 s11 wx => s1 = v ∧ s11 = .int .i64 s.fr ∧ Rm w wx s { P5 with vx := satI (P5.vx + X), vy := satI (P5.vy + Y) } v v l)
         case first => as_aux_lemma =>
          have HRz := hid (HR6.out.below (Ev.bd1 (Ev.br _)))
          go_region_with (first
           | (go_at_call 40; ((with_reducible refine (HWay _).mono ?_); rintro e w7 ⟨rfl, g7⟩; have HR7 := hid (HRz.out.below g7); obtain ⟨p0, p1, p2, p3, p4, p5, p6, p7, p8, p9⟩ := at_pl HR7.out.pl; (try dsimp only at p0 p1 p2 p3 p4 p5 p6 p7 p8 p9); have pf := HR7.out.pl.frozen))
           | (go_at_call 39; ((with_reducible refine (HPlus _).mono ?_); rintro e w8 ⟨rfl, g8⟩; have HR8 := hid (HR7.out.below g8); obtain ⟨p0, p1, p2, p3, p4, p5, p6, p7, p8, p9⟩ := at_pl HR8.out.pl; (try dsimp only at p0 p1 p2 p3 p4 p5 p6 p7 p8 p9); have pf := HR8.out.pl.frozen)))
          all_goals
           go_wp2_with fail
           go_meet
           case rel => exact ⟨rfl, rfl, (HR8.out.setp (j := 2) (p' := { P5 with vx := satI (P5.vx + X) }) (u := .int .i32 (satI (P5.vx + X))) rfl).setp (j := 3) (u := .int .i32 (satI (P5.vy + Y))) rfl⟩
         case rest =>
          obtain ⟨ev1, rfl, hcut⟩ := hcut
          obtain rfl := ev1.symm
          have HR9 := hid hcut
          clear p0 p1 p2 p3 p4 p5 p6 p7 p8 p9 pf
          clear hcut
          have e8 : s.fr % 8 = 0 ∨ s.fr % 8 ≠ 0 := by omega
          rcases e8 with e8 | e8
          · have hb8 : (s.fr % 8 == 0) = true := by rw [e8]; rfl
            have HE2 := hid (HE.out.trans (by rw [if_pos e8]))
            obtain ⟨p0, p1, p2, p3, p4, p5, p6, p7, p8, p9⟩ := at_pl HR9.out.pl; (try dsimp only at p0 p1 p2 p3 p4 p5 p6 p7 p8 p9); have pf := HR9.out.pl.frozen
            go_wp2_with (go_at_call 19; ((with_reducible refine (HTold.out _ HR9.out.ev).mono ?_); rintro e w10 ⟨v', rfl, hv, g10, hf⟩; have HR10 := hid (HR9.out.told hv g10 hf); clear hv g10 hf))
            go_meet
            case rel => rw [HE2.out]; exact ⟨v', rfl, rfl, HR10.out⟩
          · have hb8 : (s.fr % 8 == 0) = false := by simp [e8]
            have HE2 := hid (HE.out.trans (by rw [if_neg e8]))
            go_wp2_with fail
            go_meet
            case rel => rw [HE2.out]; exact ⟨v, rfl, rfl, HR9.out⟩
      case rest => as_aux_lemma =>
       obtain ⟨v1, ev1, rfl, hcut⟩ := hcut
       obtain rfl := ev1.symm
       have HR10 := hid hcut
       have HM6 := hid (Mp.thrust (r := (P5, l)) HM5.out s.fr (t + 1) a)
       have HL6 : Hid (pageI s.fr (thrustP s.fr (t + 1) a (P5, l)).2) := hid (by
        unfold thrustP
        split
        · dsimp only
          split
          · exact tel_inv HL.out _ _ _
          · exact HL.out
        · exact HL.out)
       clear p0 p1 p2 p3 p4 p5 p6 p7 p8 p9 pf
       clear hcut HR6 m1 m2 m3 m4 HM5 HTold HL
       generalize thrustP s.fr (t + 1) a (P5, l) = q6 at HR10 HM6 HL6 HU5
       obtain ⟨P6, l6⟩ := q6
       dsimp only at HR10 HM6 HL6
       clear P5
       obtain ⟨p0, p1, p2, p3, p4, p5, p6, p7, p8, p9⟩ := at_pl HR10.out.pl; (try dsimp only at p0 p1 p2 p3 p4 p5 p6 p7 p8 p9); have pf := HR10.out.pl.frozen
       obtain ⟨m1, m2, m3, m4⟩ : In32 P6.vx ∧ In32 P6.vy ∧ (0 ≤ P6.fa ∧ P6.fa ≤ 65535) ∧ (-4194304 ≤ P6.ax ∧ P6.ax ≤ 4194304) := ⟨HM6.out.vx, HM6.out.vy, HM6.out.fa, HM6.out.ax⟩
       have HTold : Hid (∀ W, Evs W v1 l6 → Calls Tryz.prog 19 #[v1, .int .i64 s.fr, .int .i64 ((t : Int) + 1), .int .i64 9, .int .i64 8192, .int .i64 4, .int .i64 0, .int .i32 P6.ax] W fun r w' => ∃ v', r = .returned v' ∧ Evs w' v' (tel s.fr l6 ((t : Int) + 1) 9 P6.ax) ∧ Below W.heap.size W w' ∧ Ev.Frv W w' v1 v') := hid (fun W hv => rtold_c 9 (by decide) (by decide) v1 l6 s.fr ((t : Int) + 1) P6.ax W hv HL6.out.2.2.1 ⟨by omega, by omega⟩ m4)
       obtain ⟨bb, HBB⟩ : ∃ bb : Bool, Hid (bb = decide (a / 32 % 2 = 1 ∧ P6.wi = 0)) := ⟨_, hid rfl⟩
       go_upto_region 26 with fail
       go_cut [1, 11, 144] (fun s1 s11 s144 wx => s1 = v1 ∧ s11 = .int .i64 s.fr ∧ s144 = .bool bb ∧ Rm w wx s P6 v v1 l6)
       case first => as_aux_lemma =>
        have e2 : a / 32 % 2 = 0 ∨ (a / 32 % 2 = 1 ∧ P6.wi ≠ 0) ∨ (a / 32 % 2 = 1 ∧ P6.wi = 0) := by omega
        rcases e2 with e2 | ⟨e2, e3⟩ | ⟨e2, e3⟩
        · have HBx := hid (show bb = false by rw [HBB.out]; simp [e2])
          have hb : (a / 32 % 2 == 1) = false := by rw [e2]; rfl
          go_wp2_with fail
          go_meet
          case rel => rw [HBx.out]; exact ⟨rfl, rfl, rfl, HR10.out⟩
        · have HBx := hid (show bb = false by rw [HBB.out]; simp [e2, e3])
          have hb : (a / 32 % 2 == 1) = true := by rw [e2]; rfl
          have hb2 : (P6.wi == 0) = false := by simp [e3]
          go_wp2_with fail
          go_meet
          case rel => rw [HBx.out]; exact ⟨rfl, rfl, rfl, HR10.out⟩
        · have HBx := hid (show bb = true by rw [HBB.out]; simp [e2, e3])
          have hb : (a / 32 % 2 == 1) = true := by rw [e2]; rfl
          have hb2 : (P6.wi == 0) = true := by simp [e3]
          go_wp2_with fail
          go_meet
          case rel => rw [HBx.out]; exact ⟨rfl, rfl, rfl, HR10.out⟩
       obtain ⟨ev1, rfl, rfl, hcut⟩ := hcut
       obtain rfl := ev1.symm
       have HR10b := hid hcut
       clear p0 p1 p2 p3 p4 p5 p6 p7 p8 p9 pf
       clear hcut HR10
       have HR10 := HR10b
       clear HR10b
       obtain ⟨p0, p1, p2, p3, p4, p5, p6, p7, p8, p9⟩ := at_pl HR10.out.pl; (try dsimp only at p0 p1 p2 p3 p4 p5 p6 p7 p8 p9); have pf := HR10.out.pl.frozen
       go_upto_if 144 with fail
       go_cut [1, 11] (fun s1 s11 wx => ∃ v', s1 = v' ∧ s11 = .int .i64 s.fr ∧ Rm w wx s (dashP s.fr (t + 1) a (P6, l6)).1 v v' (dashP s.fr (t + 1) a (P6, l6)).2)
       case first => as_aux_lemma =>
        cases bb
        · have HE := hid (show dashP s.fr (t + 1) a (P6, l6) = (P6, l6) from if_neg (fun h => by have := HBB.out; rw [decide_eq_true h] at this; cases this))
          go_wp2_with fail
          go_meet
          case rel => rw [HE.out]; exact ⟨v1, rfl, rfl, HR10.out⟩
        · have hdash : a / 32 % 2 = 1 ∧ P6.wi = 0 := of_decide_eq_true HBB.out.symm
          have HWay := fun W => rway_c P6.fa 65536 m3 (by decide) W
          have HPlus := fun W => Sh.rplus_c P6.vx P6.vy (wayX P6.fa 65536) (wayY P6.fa 65536) m1 m2 (sat_bd _) (sat_bd _) W
          have HE : Hid (dashP s.fr (t + 1) a (P6, l6) = ({ P6 with vx := satI (P6.vx + wayX P6.fa 65536), vy := satI (P6.vy + wayY P6.fa 65536), wi := 20 }, tel s.fr l6 (t + 1) 9 P6.ax)) := hid (if_pos hdash)
          generalize wayX P6.fa 65536 = X at HWay HPlus HE
          generalize wayY P6.fa 65536 = Y at HWay HPlus HE
          clear hdash
          go_upto_region 27 with fail
          clear p0 p1 p2 p3 p4 p5 p6 p7 p8 p9 pf
          go_cut [1, 11] (fun s1 s11 wx => s1 = v1 ∧ s11 = .int .i64 s.fr ∧ Rm w wx s { P6 with vx := satI (P6.vx + X), vy := satI (P6.vy + Y) } v v1 l6)
          case first => as_aux_lemma =>
           have HRz := hid (HR10.out.below (Ev.bd1 (Ev.br _)))
           obtain ⟨p0, p1, p2, p3, p4, p5, p6, p7, p8, p9⟩ := at_pl HR10.out.pl; (try dsimp only at p0 p1 p2 p3 p4 p5 p6 p7 p8 p9); have pf := HR10.out.pl.frozen
           go_region_with (first
            | (go_at_call 40; ((with_reducible refine (HWay _).mono ?_); rintro e w7 ⟨rfl, g7⟩; have HR7 := hid (HRz.out.below g7); obtain ⟨p0, p1, p2, p3, p4, p5, p6, p7, p8, p9⟩ := at_pl HR7.out.pl; (try dsimp only at p0 p1 p2 p3 p4 p5 p6 p7 p8 p9); have pf := HR7.out.pl.frozen))
            | (go_at_call 39; ((with_reducible refine (HPlus _).mono ?_); rintro e w8 ⟨rfl, g8⟩; have HR8 := hid (HR7.out.below g8); obtain ⟨p0, p1, p2, p3, p4, p5, p6, p7, p8, p9⟩ := at_pl HR8.out.pl; (try dsimp only at p0 p1 p2 p3 p4 p5 p6 p7 p8 p9); have pf := HR8.out.pl.frozen)))
           all_goals
            go_wp2_with fail
            go_meet
            case rel => exact ⟨rfl, rfl, (HR8.out.setp (j := 2) (p' := { P6 with vx := satI (P6.vx + X) }) (u := .int .i32 (satI (P6.vx + X))) rfl).setp (j := 3) (u := .int .i32 (satI (P6.vy + Y))) rfl⟩
          case rest =>
           obtain ⟨ev1, rfl, hcut⟩ := hcut
           obtain rfl := ev1.symm
           have HR11 := hid hcut
           clear hcut
           obtain ⟨p0, p1, p2, p3, p4, p5, p6, p7, p8, p9⟩ := at_pl HR11.out.pl; (try dsimp only at p0 p1 p2 p3 p4 p5 p6 p7 p8 p9); have pf := HR11.out.pl.frozen
           go_upto_region 29 with fail
           have HR12 := hid (HR11.out.setp (j := 5 + 2) (p' := { P6 with vx := satI (P6.vx + X), vy := satI (P6.vy + Y), wi := 20 }) (u := .int .i64 20) rfl)
           generalize World.setCell _ _ _ = w12 at HR12 ⊢
           clear p0 p1 p2 p3 p4 p5 p6 p7 p8 p9 pf
           obtain ⟨p0, p1, p2, p3, p4, p5, p6, p7, p8, p9⟩ := at_pl HR12.out.pl; (try dsimp only at p0 p1 p2 p3 p4 p5 p6 p7 p8 p9); have pf := HR12.out.pl.frozen
           go_wp2_with (go_at_call 19; ((with_reducible refine (HTold.out _ HR12.out.ev).mono ?_); rintro e w13 ⟨v', rfl, hv, g13, hf⟩; have HR13 := hid (HR12.out.told hv g13 hf); clear hv g13 hf))
           go_meet
           case rel => rw [HE.out]; exact ⟨v', rfl, rfl, HR13.out⟩
       case rest => as_aux_lemma =>
        obtain ⟨v2, ev2, rfl, hcut⟩ := hcut
        obtain rfl := ev2.symm
        have HR13 := hid hcut
        have HM7 := hid (Mp.dash (r := (P6, l6)) HM6.out s.fr (t + 1) a)
        have HL7 : Hid (pageI s.fr (dashP s.fr (t + 1) a (P6, l6)).2) := hid (by
         unfold dashP
         split
         · exact tel_inv HL6.out _ _ _
         · exact HL6.out)
        clear p0 p1 p2 p3 p4 p5 p6 p7 p8 p9 pf
        clear hcut HR10 m1 m2 m3 m4 HM6 HTold HL6 HBB
        generalize dashP s.fr (t + 1) a (P6, l6) = q7 at HR13 HM7 HL7 HU5
        obtain ⟨P7, l7⟩ := q7
        dsimp only at HR13 HM7 HL7
        clear P6 bb
        have h1 := in32_of HM7.out.ax
        have h2 := in32_of HM7.out.ay
        have hs1 : In32 (slowX P7) := slow_bd _ _ _ (sat_bd _)
        have hs2 : In32 (slowY P7) := slow_bd _ _ _ (sat_bd _)
        have HSl := fun W => Sh.rslow_c P7.vx P7.vy 61440 131072 HM7.out.vx HM7.out.vy (by decide) (by decide) W
        have HMv := fun W => Sh.rmove_c P7.ax P7.ay (slowX P7) (slowY P7) (-3932160) (-3932160) 3932160 3932160 h1 h2 hs1 hs2 W
        have HV : Hid (moveP s.fr (t + 1) (P7, l7) = ({ P7 with ax := mvP P7.ax (slowX P7) (-3932160) 3932160, ay := mvP P7.ay (slowY P7) (-3932160) 3932160, vx := mvV P7.ax (slowX P7) (-3932160) 3932160, vy := mvV P7.ay (slowY P7) (-3932160) 3932160 }, if wallI P7.ax P7.ay (slowX P7) (slowY P7) (-3932160) (-3932160) 3932160 3932160 = 0 then l7 else tel s.fr l7 (t + 1) 3 (mvP P7.ax (slowX P7) (-3932160) 3932160))) := hid rfl
        have hX : ∃ X Y U V' W' A B : Int, Hid (X = mvP P7.ax (slowX P7) (-3932160) 3932160 ∧ Y = mvP P7.ay (slowY P7) (-3932160) 3932160 ∧ U = mvV P7.ax (slowX P7) (-3932160) 3932160 ∧ V' = mvV P7.ay (slowY P7) (-3932160) 3932160 ∧ W' = wallI P7.ax P7.ay (slowX P7) (slowY P7) (-3932160) (-3932160) 3932160 3932160 ∧ A = slowX P7 ∧ B = slowY P7) := ⟨_, _, _, _, _, _, _, rfl, rfl, rfl, rfl, rfl, rfl, rfl⟩
        obtain ⟨X, Y, U, V', W', A, B, hX⟩ := hX
        obtain ⟨x1, x2, x3, x4, x5, x6, x7⟩ := hX.out
        have hXb : Hid (-4194304 ≤ X ∧ X ≤ 4194304) := hid (by rw [x1]; exact mvP_bd _ _)
        have hWb : Hid (0 ≤ W') := hid (by rw [x5]; exact wall_pos _ _ _ _ _ _ _ _)
        rw [← x1, ← x2, ← x3, ← x4, ← x5, ← x6, ← x7] at HMv
        rw [← x1, ← x2, ← x3, ← x4, ← x5] at HV
        change ∀ W, Calls _ _ _ W (fun e w' => e = .returned (vec (slowX P7) (slowY P7)) ∧ _) at HSl
        rw [← x6, ← x7] at HSl
        clear hX x1 x2 x3 x4 x5 x6 x7 hs1 hs2 h1 h2
        obtain ⟨p0, p1, p2, p3, p4, p5, p6, p7, p8, p9⟩ := at_pl HR13.out.pl; (try dsimp only at p0 p1 p2 p3 p4 p5 p6 p7 p8 p9); have pf := HR13.out.pl.frozen
        go_upto_region 31 with (go_at_call 41; ((with_reducible refine (HSl _).mono ?_); rintro e w14 ⟨rfl, g14⟩; have HR14 := hid (HR13.out.below g14); obtain ⟨p0, p1, p2, p3, p4, p5, p6, p7, p8, p9⟩ := at_pl HR14.out.pl; (try dsimp only at p0 p1 p2 p3 p4 p5 p6 p7 p8 p9); have pf := HR14.out.pl.frozen))
        have HR15 := hid ((HR14.out.setp (j := 2) (p' := { P7 with vx := A }) (u := .int .i32 A) rfl).setp (j := 3) (p' := { P7 with vx := A, vy := B }) (u := .int .i32 B) rfl)
        generalize World.setCell (World.setCell w14 _ _) _ _ = w15 at HR15 ⊢
        clear p0 p1 p2 p3 p4 p5 p6 p7 p8 p9 pf
        clear HR14 HR13 HSl g14
        go_cut [1, 11, 15, 16, 17] (fun s1 s11 s15 s16 s17 wx => s1 = v2 ∧ s11 = .int .i64 s.fr ∧ ∃ B5 B6, s15 = .pointer (some ⟨B5, 0, none⟩) ∧ s16 = .pointer (some ⟨B6, 0, none⟩) ∧ s17 = .int .i64 W' ∧ Rm w wx s { P7 with vx := A, vy := B } v v2 l7 ∧ At wx B5 #[.int .i32 X, .int .i32 Y] 27 ∧ At wx B6 #[.int .i32 U, .int .i32 V'] 27 ∧ (l7 = [] ∨ ∀ i, v2.ownBlock = some i → i ≠ B5) ∧ (l7 = [] ∨ ∀ i, v2.ownBlock = some i → i ≠ B6))
        case first => as_aux_lemma =>
         have hK := hid (fun W (g : At W (w.heap.size + 1 + 1) (plA { P7 with vx := A, vy := B }) 29) => at_pl g)
         have HR_0 := hid (HR15.out.below (Ev.bd1 (Ev.br _)))
         refine wp_region_noPanic ?_
         refine wp_region_held_drew (S := (fun W => At W (w.heap.size + 1 + 1) (plA { P7 with vx := A, vy := B }) 29)) (by kernel_rfl) HR_0.out.pl (fun hHeld => ?_)
         generalize World.drew w15 = u0 at HR_0 hHeld ⊢
         (refine tk 0 166 ?_ rfl rfl (by kernel_rfl) (by rfl) ?_ (by assumption) ?_)
         rotate_left
         · (intro W hSW; go_simp; (try with_reducible rfl))
         simp only [Act.put, pu1, pu2, pu3]
         (refine tk 1 167 ?_ rfl rfl (by kernel_rfl) (by rfl) ?_ (by assumption) ?_)
         rotate_left
         · (intro W hSW; have hSW2 := hK.out W hSW; go_simp; (try with_reducible rfl))
         simp only [Act.put, pu1, pu2, pu3]
         (refine tk 2 168 ?_ rfl rfl (by kernel_rfl) (by rfl) ?_ (by assumption) ?_)
         rotate_left
         · (intro W hSW; go_simp; (try with_reducible rfl))
         simp only [Act.put, pu1, pu2, pu3]
         (refine tk 3 169 ?_ rfl rfl (by kernel_rfl) (by rfl) ?_ (by assumption) ?_)
         rotate_left
         · (intro W hSW; have hSW2 := hK.out W hSW; go_simp; (try with_reducible rfl))
         simp only [Act.put, pu1, pu2, pu3]
         refine wpAnyH_ready (rs := [4, 10, 11]) (by kernel_rfl) (by simp) ?_
         refine AllReadyH.cons (i := 4) rfl (fun K hKK => ?_) ?_
         · go_simp
           (refine (rbox60_c _).mono ?_)
           rintro e u1 ⟨rfl, g1⟩
           have HR_1 := hid (HR_0.out.below g1)
           dsimp only
           refine hKK.out _ _ HR_1.out.pl (fun hHeld => ?_)
           clear hKK K
           (try simp only [Act.put, pu1, pu2, pu3])
           refine wpAnyH_ready (rs := [5, 10, 11]) (by kernel_rfl) (by simp) ?_
           refine AllReadyH.cons (i := 5) rfl (fun K hKK => ?_) ?_
           · go_simp
             (refine (HMv _).mono ?_)
             rintro e u2 ⟨rfl, g2⟩
             have HR_2 := hid (HR_1.out.below g2)
             dsimp only
             refine hKK.out _ _ HR_2.out.pl (fun hHeld => ?_)
             clear hKK K
             (try simp only [Act.put, pu1, pu2, pu3])
             (refine tk 6 165 ?_ rfl rfl (by kernel_rfl) (by rfl) ?_ (by assumption) ?_)
             rotate_left
             · (intro W hSW; go_simp; (try with_reducible rfl))
             simp only [Act.put, pu1, pu2, pu3]
             (refine tk 7 172 ?_ rfl rfl (by kernel_rfl) (by rfl) ?_ (by assumption) ?_)
             rotate_left
             · (intro W hSW; go_simp; (try with_reducible rfl))
             simp only [Act.put, pu1, pu2, pu3]
             (refine tk 8 173 ?_ rfl rfl (by kernel_rfl) (by rfl) ?_ (by assumption) ?_)
             rotate_left
             · (intro W hSW; go_simp; (try with_reducible rfl))
             simp only [Act.put, pu1, pu2, pu3]
             (refine tk 9 174 ?_ rfl rfl (by kernel_rfl) (by rfl) ?_ (by assumption) ?_)
             rotate_left
             · (intro W hSW; go_simp; (try with_reducible rfl))
             simp only [Act.put, pu1, pu2, pu3]
             refine wpAnyH_ready (rs := [10, 11]) (by kernel_rfl) (by simp) ?_
             refine AllReadyH.cons (i := 10) rfl (fun K hKK => ?_) ?_
             · go_simp
               have HA5_3 := hid (At.new u2 #[.int .i32 0, .int .i32 0] 27)
               have HR_3 := hid (HR_2.out.below (Ev.bal (Ev.br u2) (.cells #[.int .i32 0, .int .i32 0] 27)))
               have HG5 := hid HR_2.out.pl.lt
               have HO5 := hid (evs_off HR_2.out.ev)
               refine hKK.out _ _ HR_3.out.pl (fun hHeld => ?_)
               clear hKK K
               (try simp only [Act.put, pu1, pu2, pu3])
               generalize World.alloc u2 _ = u3 at HR_3 HA5_3 hHeld ⊢
               generalize u2.heap.size = B5 at HA5_3 HG5 HO5 ⊢
               refine wpAnyH_ready (rs := [11]) (by kernel_rfl) (by simp) ?_
               refine AllReadyH.cons (i := 11) rfl (fun K hKK => ?_) AllReadyH.nil
               go_simp
               have HA6_4 := hid (At.new u3 #[.int .i32 0, .int .i32 0] 27)
               have HR_4 := hid (HR_3.out.below (Ev.bal (Ev.br u3) (.cells #[.int .i32 0, .int .i32 0] 27)))
               have HG6 := hid HR_3.out.pl.lt
               have HO6 := hid (evs_off HR_3.out.ev)
               have HA5_4 := hid (HA5_3.out.more (.cells #[.int .i32 0, .int .i32 0] 27))
               have HN := hid (Nat.ne_of_lt HA5_3.out.lt)
               refine hKK.out _ _ HR_4.out.pl (fun hHeld => ?_)
               clear hKK K
               (try simp only [Act.put, pu1, pu2, pu3])
               generalize World.alloc u3 _ = u4 at HR_4 HA6_4 HA5_4 hHeld ⊢
               generalize u3.heap.size = B6 at HA6_4 HG6 HO6 HN ⊢
               have HNE := hid (show B5 ≠ B6 from HN.out)
               as_aux_lemma =>
               refine wpAnyH_ready (rs := [12]) (by kernel_rfl) (by simp) ?_
               refine AllReadyH.cons (i := 12) rfl (fun K hKK => ?_) AllReadyH.nil
               obtain ⟨k0, k1⟩ := HA5_4.out.two
               have kf := HA5_4.out.frozen
               go_simp
               have HA5_5 : Hid (At ((u4.setCell ⟨B5, 0, none⟩ (.int .i32 X)).setCell ⟨B5, 1, none⟩ (.int .i32 Y)) B5 #[.int .i32 X, .int .i32 Y] 27) := hid (at_set (at_set HA5_4.out 0 _) 1 _)
               have HA6_5 := hid ((HA6_4.out.far (j := 0) (Ne.symm HNE.out) (.int .i32 X)).far (j := 1) (Ne.symm HNE.out) (.int .i32 Y))
               have HR_5 := hid ((HR_4.out.other HG5.out HO5.out 0 (.int .i32 X)).other HG5.out HO5.out 1 (.int .i32 Y))
               refine hKK.out _ _ HR_5.out.pl (fun hHeld => ?_)
               clear hKK K k0 k1 kf
               (try simp only [Act.put, pu1, pu2, pu3])
               generalize World.setCell (World.setCell u4 _ _) _ _ = u5 at HR_5 HA5_5 HA6_5 hHeld ⊢
               refine wpAnyH_ready (rs := [13]) (by kernel_rfl) (by simp) ?_
               refine AllReadyH.cons (i := 13) rfl (fun K hKK => ?_) AllReadyH.nil
               obtain ⟨k0, k1⟩ := HA6_5.out.two
               have kf := HA6_5.out.frozen
               go_simp
               have HA6_6 : Hid (At ((u5.setCell ⟨B6, 0, none⟩ (.int .i32 U)).setCell ⟨B6, 1, none⟩ (.int .i32 V')) B6 #[.int .i32 U, .int .i32 V'] 27) := hid (at_set (at_set HA6_5.out 0 _) 1 _)
               have HA5_6 := hid ((HA5_5.out.far (j := 0) HNE.out (.int .i32 U)).far (j := 1) HNE.out (.int .i32 V'))
               have HR_6 := hid ((HR_5.out.other HG6.out HO6.out 0 (.int .i32 U)).other HG6.out HO6.out 1 (.int .i32 V'))
               refine hKK.out _ _ HR_6.out.pl (fun hHeld => ?_)
               clear hKK K k0 k1 kf
               (try simp only [Act.put, pu1, pu2, pu3])
               generalize World.setCell (World.setCell u5 _ _) _ _ = u6 at HR_6 HA5_6 HA6_6 hHeld ⊢
               refine wpAnyH_ready (rs := [14]) (by kernel_rfl) (by simp) ?_
               refine AllReadyH.cons (i := 14) rfl (fun K hKK => ?_) AllReadyH.nil
               go_simp
               have HR_7 := HR_6
               have HA5_7 := HA5_6
               have HA6_7 := HA6_6
               refine hKK.out _ _ HR_7.out.pl (fun hHeld => ?_)
               clear hKK K
               (try simp only [Act.put, pu1, pu2, pu3])
               obtain ⟨u7, hu7⟩ : ∃ z, z = u6 := ⟨_, rfl⟩
               rw [← hu7] at HR_7 HA5_7 HA6_7 hHeld ⊢
               clear hu7
               refine wpAnyH_done (by kernel_rfl) ?_ _
               refine NoPanic.normal ?_
               go_wp2_with fail
               go_meet
               case rel => exact ⟨rfl, rfl, B5, B6, rfl, rfl, rfl, HR_7.out, HA5_7.out, HA6_7.out, HO5.out, HO6.out⟩
             refine AllReadyH.cons (i := 11) rfl (fun K hKK => ?_) AllReadyH.nil
             go_simp
             have HA6_8 := hid (At.new u2 #[.int .i32 0, .int .i32 0] 27)
             have HR_8 := hid (HR_2.out.below (Ev.bal (Ev.br u2) (.cells #[.int .i32 0, .int .i32 0] 27)))
             have HG6 := hid HR_2.out.pl.lt
             have HO6 := hid (evs_off HR_2.out.ev)
             refine hKK.out _ _ HR_8.out.pl (fun hHeld => ?_)
             clear hKK K
             (try simp only [Act.put, pu1, pu2, pu3])
             generalize World.alloc u2 _ = u8 at HR_8 HA6_8 hHeld ⊢
             generalize u2.heap.size = B6 at HA6_8 HG6 HO6 ⊢
             refine wpAnyH_ready (rs := [10]) (by kernel_rfl) (by simp) ?_
             refine AllReadyH.cons (i := 10) rfl (fun K hKK => ?_) AllReadyH.nil
             go_simp
             have HA5_9 := hid (At.new u8 #[.int .i32 0, .int .i32 0] 27)
             have HR_9 := hid (HR_8.out.below (Ev.bal (Ev.br u8) (.cells #[.int .i32 0, .int .i32 0] 27)))
             have HG5 := hid HR_8.out.pl.lt
             have HO5 := hid (evs_off HR_8.out.ev)
             have HA6_9 := hid (HA6_8.out.more (.cells #[.int .i32 0, .int .i32 0] 27))
             have HN := hid (Nat.ne_of_lt HA6_8.out.lt)
             refine hKK.out _ _ HR_9.out.pl (fun hHeld => ?_)
             clear hKK K
             (try simp only [Act.put, pu1, pu2, pu3])
             generalize World.alloc u8 _ = u9 at HR_9 HA5_9 HA6_9 hHeld ⊢
             generalize u8.heap.size = B5 at HA5_9 HG5 HO5 HN ⊢
             have HNE := hid (show B5 ≠ B6 from Ne.symm HN.out)
             as_aux_lemma =>
             refine wpAnyH_ready (rs := [12]) (by kernel_rfl) (by simp) ?_
             refine AllReadyH.cons (i := 12) rfl (fun K hKK => ?_) AllReadyH.nil
             obtain ⟨k0, k1⟩ := HA5_9.out.two
             have kf := HA5_9.out.frozen
             go_simp
             have HA5_10 : Hid (At ((u9.setCell ⟨B5, 0, none⟩ (.int .i32 X)).setCell ⟨B5, 1, none⟩ (.int .i32 Y)) B5 #[.int .i32 X, .int .i32 Y] 27) := hid (at_set (at_set HA5_9.out 0 _) 1 _)
             have HA6_10 := hid ((HA6_9.out.far (j := 0) (Ne.symm HNE.out) (.int .i32 X)).far (j := 1) (Ne.symm HNE.out) (.int .i32 Y))
             have HR_10 := hid ((HR_9.out.other HG5.out HO5.out 0 (.int .i32 X)).other HG5.out HO5.out 1 (.int .i32 Y))
             refine hKK.out _ _ HR_10.out.pl (fun hHeld => ?_)
             clear hKK K k0 k1 kf
             (try simp only [Act.put, pu1, pu2, pu3])
             generalize World.setCell (World.setCell u9 _ _) _ _ = u10 at HR_10 HA5_10 HA6_10 hHeld ⊢
             refine wpAnyH_ready (rs := [13]) (by kernel_rfl) (by simp) ?_
             refine AllReadyH.cons (i := 13) rfl (fun K hKK => ?_) AllReadyH.nil
             obtain ⟨k0, k1⟩ := HA6_10.out.two
             have kf := HA6_10.out.frozen
             go_simp
             have HA6_11 : Hid (At ((u10.setCell ⟨B6, 0, none⟩ (.int .i32 U)).setCell ⟨B6, 1, none⟩ (.int .i32 V')) B6 #[.int .i32 U, .int .i32 V'] 27) := hid (at_set (at_set HA6_10.out 0 _) 1 _)
             have HA5_11 := hid ((HA5_10.out.far (j := 0) HNE.out (.int .i32 U)).far (j := 1) HNE.out (.int .i32 V'))
             have HR_11 := hid ((HR_10.out.other HG6.out HO6.out 0 (.int .i32 U)).other HG6.out HO6.out 1 (.int .i32 V'))
             refine hKK.out _ _ HR_11.out.pl (fun hHeld => ?_)
             clear hKK K k0 k1 kf
             (try simp only [Act.put, pu1, pu2, pu3])
             generalize World.setCell (World.setCell u10 _ _) _ _ = u11 at HR_11 HA5_11 HA6_11 hHeld ⊢
             refine wpAnyH_ready (rs := [14]) (by kernel_rfl) (by simp) ?_
             refine AllReadyH.cons (i := 14) rfl (fun K hKK => ?_) AllReadyH.nil
             go_simp
             have HR_12 := HR_11
             have HA6_12 := HA6_11
             have HA5_12 := HA5_11
             refine hKK.out _ _ HR_12.out.pl (fun hHeld => ?_)
             clear hKK K
             (try simp only [Act.put, pu1, pu2, pu3])
             obtain ⟨u12, hu12⟩ : ∃ z, z = u11 := ⟨_, rfl⟩
             rw [← hu12] at HR_12 HA5_12 HA6_12 hHeld ⊢
             clear hu12
             refine wpAnyH_done (by kernel_rfl) ?_ _
             refine NoPanic.normal ?_
             go_wp2_with fail
             go_meet
             case rel => exact ⟨rfl, rfl, B5, B6, rfl, rfl, rfl, HR_12.out, HA5_12.out, HA6_12.out, HO5.out, HO6.out⟩
           refine AllReadyH.cons (i := 10) rfl (fun K hKK => ?_) ?_
           · go_simp
             have HA5_13 := hid (At.new u1 #[.int .i32 0, .int .i32 0] 27)
             have HR_13 := hid (HR_1.out.below (Ev.bal (Ev.br u1) (.cells #[.int .i32 0, .int .i32 0] 27)))
             have HG5 := hid HR_1.out.pl.lt
             have HO5 := hid (evs_off HR_1.out.ev)
             refine hKK.out _ _ HR_13.out.pl (fun hHeld => ?_)
             clear hKK K
             (try simp only [Act.put, pu1, pu2, pu3])
             generalize World.alloc u1 _ = u13 at HR_13 HA5_13 hHeld ⊢
             generalize u1.heap.size = B5 at HA5_13 HG5 HO5 ⊢
             refine wpAnyH_ready (rs := [5, 11]) (by kernel_rfl) (by simp) ?_
             refine AllReadyH.cons (i := 5) rfl (fun K hKK => ?_) ?_
             · go_simp
               (refine (HMv _).mono ?_)
               rintro e u14 ⟨rfl, g14⟩
               have HR_14 := hid (HR_13.out.below g14)
               have HA5_14 := hid (HA5_13.out.below g14)
               dsimp only
               refine hKK.out _ _ HR_14.out.pl (fun hHeld => ?_)
               clear hKK K
               (try simp only [Act.put, pu1, pu2, pu3])
               (refine tk 6 165 ?_ rfl rfl (by kernel_rfl) (by rfl) ?_ (by assumption) ?_)
               rotate_left
               · (intro W hSW; go_simp; (try with_reducible rfl))
               simp only [Act.put, pu1, pu2, pu3]
               (refine tk 7 172 ?_ rfl rfl (by kernel_rfl) (by rfl) ?_ (by assumption) ?_)
               rotate_left
               · (intro W hSW; go_simp; (try with_reducible rfl))
               simp only [Act.put, pu1, pu2, pu3]
               (refine tk 8 173 ?_ rfl rfl (by kernel_rfl) (by rfl) ?_ (by assumption) ?_)
               rotate_left
               · (intro W hSW; go_simp; (try with_reducible rfl))
               simp only [Act.put, pu1, pu2, pu3]
               (refine tk 9 174 ?_ rfl rfl (by kernel_rfl) (by rfl) ?_ (by assumption) ?_)
               rotate_left
               · (intro W hSW; go_simp; (try with_reducible rfl))
               simp only [Act.put, pu1, pu2, pu3]
               refine wpAnyH_ready (rs := [11]) (by kernel_rfl) (by simp) ?_
               refine AllReadyH.cons (i := 11) rfl (fun K hKK => ?_) AllReadyH.nil
               go_simp
               have HA6_15 := hid (At.new u14 #[.int .i32 0, .int .i32 0] 27)
               have HR_15 := hid (HR_14.out.below (Ev.bal (Ev.br u14) (.cells #[.int .i32 0, .int .i32 0] 27)))
               have HG6 := hid HR_14.out.pl.lt
               have HO6 := hid (evs_off HR_14.out.ev)
               have HA5_15 := hid (HA5_14.out.more (.cells #[.int .i32 0, .int .i32 0] 27))
               have HN := hid (Nat.ne_of_lt HA5_14.out.lt)
               refine hKK.out _ _ HR_15.out.pl (fun hHeld => ?_)
               clear hKK K
               (try simp only [Act.put, pu1, pu2, pu3])
               generalize World.alloc u14 _ = u15 at HR_15 HA6_15 HA5_15 hHeld ⊢
               generalize u14.heap.size = B6 at HA6_15 HG6 HO6 HN ⊢
               have HNE := hid (show B5 ≠ B6 from HN.out)
               as_aux_lemma =>
               refine wpAnyH_ready (rs := [12]) (by kernel_rfl) (by simp) ?_
               refine AllReadyH.cons (i := 12) rfl (fun K hKK => ?_) AllReadyH.nil
               obtain ⟨k0, k1⟩ := HA5_15.out.two
               have kf := HA5_15.out.frozen
               go_simp
               have HA5_16 : Hid (At ((u15.setCell ⟨B5, 0, none⟩ (.int .i32 X)).setCell ⟨B5, 1, none⟩ (.int .i32 Y)) B5 #[.int .i32 X, .int .i32 Y] 27) := hid (at_set (at_set HA5_15.out 0 _) 1 _)
               have HA6_16 := hid ((HA6_15.out.far (j := 0) (Ne.symm HNE.out) (.int .i32 X)).far (j := 1) (Ne.symm HNE.out) (.int .i32 Y))
               have HR_16 := hid ((HR_15.out.other HG5.out HO5.out 0 (.int .i32 X)).other HG5.out HO5.out 1 (.int .i32 Y))
               refine hKK.out _ _ HR_16.out.pl (fun hHeld => ?_)
               clear hKK K k0 k1 kf
               (try simp only [Act.put, pu1, pu2, pu3])
               generalize World.setCell (World.setCell u15 _ _) _ _ = u16 at HR_16 HA5_16 HA6_16 hHeld ⊢
               refine wpAnyH_ready (rs := [13]) (by kernel_rfl) (by simp) ?_
               refine AllReadyH.cons (i := 13) rfl (fun K hKK => ?_) AllReadyH.nil
               obtain ⟨k0, k1⟩ := HA6_16.out.two
               have kf := HA6_16.out.frozen
               go_simp
               have HA6_17 : Hid (At ((u16.setCell ⟨B6, 0, none⟩ (.int .i32 U)).setCell ⟨B6, 1, none⟩ (.int .i32 V')) B6 #[.int .i32 U, .int .i32 V'] 27) := hid (at_set (at_set HA6_16.out 0 _) 1 _)
               have HA5_17 := hid ((HA5_16.out.far (j := 0) HNE.out (.int .i32 U)).far (j := 1) HNE.out (.int .i32 V'))
               have HR_17 := hid ((HR_16.out.other HG6.out HO6.out 0 (.int .i32 U)).other HG6.out HO6.out 1 (.int .i32 V'))
               refine hKK.out _ _ HR_17.out.pl (fun hHeld => ?_)
               clear hKK K k0 k1 kf
               (try simp only [Act.put, pu1, pu2, pu3])
               generalize World.setCell (World.setCell u16 _ _) _ _ = u17 at HR_17 HA5_17 HA6_17 hHeld ⊢
               refine wpAnyH_ready (rs := [14]) (by kernel_rfl) (by simp) ?_
               refine AllReadyH.cons (i := 14) rfl (fun K hKK => ?_) AllReadyH.nil
               go_simp
               have HR_18 := HR_17
               have HA5_18 := HA5_17
               have HA6_18 := HA6_17
               refine hKK.out _ _ HR_18.out.pl (fun hHeld => ?_)
               clear hKK K
               (try simp only [Act.put, pu1, pu2, pu3])
               obtain ⟨u18, hu18⟩ : ∃ z, z = u17 := ⟨_, rfl⟩
               rw [← hu18] at HR_18 HA5_18 HA6_18 hHeld ⊢
               clear hu18
               refine wpAnyH_done (by kernel_rfl) ?_ _
               refine NoPanic.normal ?_
               go_wp2_with fail
               go_meet
               case rel => exact ⟨rfl, rfl, B5, B6, rfl, rfl, rfl, HR_18.out, HA5_18.out, HA6_18.out, HO5.out, HO6.out⟩
             refine AllReadyH.cons (i := 11) rfl (fun K hKK => ?_) AllReadyH.nil
             go_simp
             have HA6_19 := hid (At.new u13 #[.int .i32 0, .int .i32 0] 27)
             have HR_19 := hid (HR_13.out.below (Ev.bal (Ev.br u13) (.cells #[.int .i32 0, .int .i32 0] 27)))
             have HG6 := hid HR_13.out.pl.lt
             have HO6 := hid (evs_off HR_13.out.ev)
             have HA5_19 := hid (HA5_13.out.more (.cells #[.int .i32 0, .int .i32 0] 27))
             have HN := hid (Nat.ne_of_lt HA5_13.out.lt)
             refine hKK.out _ _ HR_19.out.pl (fun hHeld => ?_)
             clear hKK K
             (try simp only [Act.put, pu1, pu2, pu3])
             generalize World.alloc u13 _ = u19 at HR_19 HA6_19 HA5_19 hHeld ⊢
             generalize u13.heap.size = B6 at HA6_19 HG6 HO6 HN ⊢
             have HNE := hid (show B5 ≠ B6 from HN.out)
             refine wpAnyH_ready (rs := [5]) (by kernel_rfl) (by simp) ?_
             refine AllReadyH.cons (i := 5) rfl (fun K hKK => ?_) AllReadyH.nil
             go_simp
             (refine (HMv _).mono ?_)
             rintro e u20 ⟨rfl, g20⟩
             have HR_20 := hid (HR_19.out.below g20)
             have HA5_20 := hid (HA5_19.out.below g20)
             have HA6_20 := hid (HA6_19.out.below g20)
             dsimp only
             refine hKK.out _ _ HR_20.out.pl (fun hHeld => ?_)
             clear hKK K
             (try simp only [Act.put, pu1, pu2, pu3])
             (refine tk 6 165 ?_ rfl rfl (by kernel_rfl) (by rfl) ?_ (by assumption) ?_)
             rotate_left
             · (intro W hSW; go_simp; (try with_reducible rfl))
             simp only [Act.put, pu1, pu2, pu3]
             (refine tk 7 172 ?_ rfl rfl (by kernel_rfl) (by rfl) ?_ (by assumption) ?_)
             rotate_left
             · (intro W hSW; go_simp; (try with_reducible rfl))
             simp only [Act.put, pu1, pu2, pu3]
             (refine tk 8 173 ?_ rfl rfl (by kernel_rfl) (by rfl) ?_ (by assumption) ?_)
             rotate_left
             · (intro W hSW; go_simp; (try with_reducible rfl))
             simp only [Act.put, pu1, pu2, pu3]
             (refine tk 9 174 ?_ rfl rfl (by kernel_rfl) (by rfl) ?_ (by assumption) ?_)
             rotate_left
             · (intro W hSW; go_simp; (try with_reducible rfl))
             simp only [Act.put, pu1, pu2, pu3]
             as_aux_lemma =>
             refine wpAnyH_ready (rs := [12]) (by kernel_rfl) (by simp) ?_
             refine AllReadyH.cons (i := 12) rfl (fun K hKK => ?_) AllReadyH.nil
             obtain ⟨k0, k1⟩ := HA5_20.out.two
             have kf := HA5_20.out.frozen
             go_simp
             have HA5_21 : Hid (At ((u20.setCell ⟨B5, 0, none⟩ (.int .i32 X)).setCell ⟨B5, 1, none⟩ (.int .i32 Y)) B5 #[.int .i32 X, .int .i32 Y] 27) := hid (at_set (at_set HA5_20.out 0 _) 1 _)
             have HA6_21 := hid ((HA6_20.out.far (j := 0) (Ne.symm HNE.out) (.int .i32 X)).far (j := 1) (Ne.symm HNE.out) (.int .i32 Y))
             have HR_21 := hid ((HR_20.out.other HG5.out HO5.out 0 (.int .i32 X)).other HG5.out HO5.out 1 (.int .i32 Y))
             refine hKK.out _ _ HR_21.out.pl (fun hHeld => ?_)
             clear hKK K k0 k1 kf
             (try simp only [Act.put, pu1, pu2, pu3])
             generalize World.setCell (World.setCell u20 _ _) _ _ = u21 at HR_21 HA5_21 HA6_21 hHeld ⊢
             refine wpAnyH_ready (rs := [13]) (by kernel_rfl) (by simp) ?_
             refine AllReadyH.cons (i := 13) rfl (fun K hKK => ?_) AllReadyH.nil
             obtain ⟨k0, k1⟩ := HA6_21.out.two
             have kf := HA6_21.out.frozen
             go_simp
             have HA6_22 : Hid (At ((u21.setCell ⟨B6, 0, none⟩ (.int .i32 U)).setCell ⟨B6, 1, none⟩ (.int .i32 V')) B6 #[.int .i32 U, .int .i32 V'] 27) := hid (at_set (at_set HA6_21.out 0 _) 1 _)
             have HA5_22 := hid ((HA5_21.out.far (j := 0) HNE.out (.int .i32 U)).far (j := 1) HNE.out (.int .i32 V'))
             have HR_22 := hid ((HR_21.out.other HG6.out HO6.out 0 (.int .i32 U)).other HG6.out HO6.out 1 (.int .i32 V'))
             refine hKK.out _ _ HR_22.out.pl (fun hHeld => ?_)
             clear hKK K k0 k1 kf
             (try simp only [Act.put, pu1, pu2, pu3])
             generalize World.setCell (World.setCell u21 _ _) _ _ = u22 at HR_22 HA5_22 HA6_22 hHeld ⊢
             refine wpAnyH_ready (rs := [14]) (by kernel_rfl) (by simp) ?_
             refine AllReadyH.cons (i := 14) rfl (fun K hKK => ?_) AllReadyH.nil
             go_simp
             have HR_23 := HR_22
             have HA5_23 := HA5_22
             have HA6_23 := HA6_22
             refine hKK.out _ _ HR_23.out.pl (fun hHeld => ?_)
             clear hKK K
             (try simp only [Act.put, pu1, pu2, pu3])
             obtain ⟨u23, hu23⟩ : ∃ z, z = u22 := ⟨_, rfl⟩
             rw [← hu23] at HR_23 HA5_23 HA6_23 hHeld ⊢
             clear hu23
             refine wpAnyH_done (by kernel_rfl) ?_ _
             refine NoPanic.normal ?_
             go_wp2_with fail
             go_meet
             case rel => exact ⟨rfl, rfl, B5, B6, rfl, rfl, rfl, HR_23.out, HA5_23.out, HA6_23.out, HO5.out, HO6.out⟩
           refine AllReadyH.cons (i := 11) rfl (fun K hKK => ?_) AllReadyH.nil
           go_simp
           have HA6_24 := hid (At.new u1 #[.int .i32 0, .int .i32 0] 27)
           have HR_24 := hid (HR_1.out.below (Ev.bal (Ev.br u1) (.cells #[.int .i32 0, .int .i32 0] 27)))
           have HG6 := hid HR_1.out.pl.lt
           have HO6 := hid (evs_off HR_1.out.ev)
           refine hKK.out _ _ HR_24.out.pl (fun hHeld => ?_)
           clear hKK K
           (try simp only [Act.put, pu1, pu2, pu3])
           generalize World.alloc u1 _ = u24 at HR_24 HA6_24 hHeld ⊢
           generalize u1.heap.size = B6 at HA6_24 HG6 HO6 ⊢
           refine wpAnyH_ready (rs := [5, 10]) (by kernel_rfl) (by simp) ?_
           refine AllReadyH.cons (i := 5) rfl (fun K hKK => ?_) ?_
           · go_simp
             (refine (HMv _).mono ?_)
             rintro e u25 ⟨rfl, g25⟩
             have HR_25 := hid (HR_24.out.below g25)
             have HA6_25 := hid (HA6_24.out.below g25)
             dsimp only
             refine hKK.out _ _ HR_25.out.pl (fun hHeld => ?_)
             clear hKK K
             (try simp only [Act.put, pu1, pu2, pu3])
             (refine tk 6 165 ?_ rfl rfl (by kernel_rfl) (by rfl) ?_ (by assumption) ?_)
             rotate_left
             · (intro W hSW; go_simp; (try with_reducible rfl))
             simp only [Act.put, pu1, pu2, pu3]
             (refine tk 7 172 ?_ rfl rfl (by kernel_rfl) (by rfl) ?_ (by assumption) ?_)
             rotate_left
             · (intro W hSW; go_simp; (try with_reducible rfl))
             simp only [Act.put, pu1, pu2, pu3]
             (refine tk 8 173 ?_ rfl rfl (by kernel_rfl) (by rfl) ?_ (by assumption) ?_)
             rotate_left
             · (intro W hSW; go_simp; (try with_reducible rfl))
             simp only [Act.put, pu1, pu2, pu3]
             (refine tk 9 174 ?_ rfl rfl (by kernel_rfl) (by rfl) ?_ (by assumption) ?_)
             rotate_left
             · (intro W hSW; go_simp; (try with_reducible rfl))
             simp only [Act.put, pu1, pu2, pu3]
             refine wpAnyH_ready (rs := [10]) (by kernel_rfl) (by simp) ?_
             refine AllReadyH.cons (i := 10) rfl (fun K hKK => ?_) AllReadyH.nil
             go_simp
             have HA5_26 := hid (At.new u25 #[.int .i32 0, .int .i32 0] 27)
             have HR_26 := hid (HR_25.out.below (Ev.bal (Ev.br u25) (.cells #[.int .i32 0, .int .i32 0] 27)))
             have HG5 := hid HR_25.out.pl.lt
             have HO5 := hid (evs_off HR_25.out.ev)
             have HA6_26 := hid (HA6_25.out.more (.cells #[.int .i32 0, .int .i32 0] 27))
             have HN := hid (Nat.ne_of_lt HA6_25.out.lt)
             refine hKK.out _ _ HR_26.out.pl (fun hHeld => ?_)
             clear hKK K
             (try simp only [Act.put, pu1, pu2, pu3])
             generalize World.alloc u25 _ = u26 at HR_26 HA5_26 HA6_26 hHeld ⊢
             generalize u25.heap.size = B5 at HA5_26 HG5 HO5 HN ⊢
             have HNE := hid (show B5 ≠ B6 from Ne.symm HN.out)
             as_aux_lemma =>
             refine wpAnyH_ready (rs := [12]) (by kernel_rfl) (by simp) ?_
             refine AllReadyH.cons (i := 12) rfl (fun K hKK => ?_) AllReadyH.nil
             obtain ⟨k0, k1⟩ := HA5_26.out.two
             have kf := HA5_26.out.frozen
             go_simp
             have HA5_27 : Hid (At ((u26.setCell ⟨B5, 0, none⟩ (.int .i32 X)).setCell ⟨B5, 1, none⟩ (.int .i32 Y)) B5 #[.int .i32 X, .int .i32 Y] 27) := hid (at_set (at_set HA5_26.out 0 _) 1 _)
             have HA6_27 := hid ((HA6_26.out.far (j := 0) (Ne.symm HNE.out) (.int .i32 X)).far (j := 1) (Ne.symm HNE.out) (.int .i32 Y))
             have HR_27 := hid ((HR_26.out.other HG5.out HO5.out 0 (.int .i32 X)).other HG5.out HO5.out 1 (.int .i32 Y))
             refine hKK.out _ _ HR_27.out.pl (fun hHeld => ?_)
             clear hKK K k0 k1 kf
             (try simp only [Act.put, pu1, pu2, pu3])
             generalize World.setCell (World.setCell u26 _ _) _ _ = u27 at HR_27 HA5_27 HA6_27 hHeld ⊢
             refine wpAnyH_ready (rs := [13]) (by kernel_rfl) (by simp) ?_
             refine AllReadyH.cons (i := 13) rfl (fun K hKK => ?_) AllReadyH.nil
             obtain ⟨k0, k1⟩ := HA6_27.out.two
             have kf := HA6_27.out.frozen
             go_simp
             have HA6_28 : Hid (At ((u27.setCell ⟨B6, 0, none⟩ (.int .i32 U)).setCell ⟨B6, 1, none⟩ (.int .i32 V')) B6 #[.int .i32 U, .int .i32 V'] 27) := hid (at_set (at_set HA6_27.out 0 _) 1 _)
             have HA5_28 := hid ((HA5_27.out.far (j := 0) HNE.out (.int .i32 U)).far (j := 1) HNE.out (.int .i32 V'))
             have HR_28 := hid ((HR_27.out.other HG6.out HO6.out 0 (.int .i32 U)).other HG6.out HO6.out 1 (.int .i32 V'))
             refine hKK.out _ _ HR_28.out.pl (fun hHeld => ?_)
             clear hKK K k0 k1 kf
             (try simp only [Act.put, pu1, pu2, pu3])
             generalize World.setCell (World.setCell u27 _ _) _ _ = u28 at HR_28 HA5_28 HA6_28 hHeld ⊢
             refine wpAnyH_ready (rs := [14]) (by kernel_rfl) (by simp) ?_
             refine AllReadyH.cons (i := 14) rfl (fun K hKK => ?_) AllReadyH.nil
             go_simp
             have HR_29 := HR_28
             have HA6_29 := HA6_28
             have HA5_29 := HA5_28
             refine hKK.out _ _ HR_29.out.pl (fun hHeld => ?_)
             clear hKK K
             (try simp only [Act.put, pu1, pu2, pu3])
             obtain ⟨u29, hu29⟩ : ∃ z, z = u28 := ⟨_, rfl⟩
             rw [← hu29] at HR_29 HA5_29 HA6_29 hHeld ⊢
             clear hu29
             refine wpAnyH_done (by kernel_rfl) ?_ _
             refine NoPanic.normal ?_
             go_wp2_with fail
             go_meet
             case rel => exact ⟨rfl, rfl, B5, B6, rfl, rfl, rfl, HR_29.out, HA5_29.out, HA6_29.out, HO5.out, HO6.out⟩
           refine AllReadyH.cons (i := 10) rfl (fun K hKK => ?_) AllReadyH.nil
           go_simp
           have HA5_30 := hid (At.new u24 #[.int .i32 0, .int .i32 0] 27)
           have HR_30 := hid (HR_24.out.below (Ev.bal (Ev.br u24) (.cells #[.int .i32 0, .int .i32 0] 27)))
           have HG5 := hid HR_24.out.pl.lt
           have HO5 := hid (evs_off HR_24.out.ev)
           have HA6_30 := hid (HA6_24.out.more (.cells #[.int .i32 0, .int .i32 0] 27))
           have HN := hid (Nat.ne_of_lt HA6_24.out.lt)
           refine hKK.out _ _ HR_30.out.pl (fun hHeld => ?_)
           clear hKK K
           (try simp only [Act.put, pu1, pu2, pu3])
           generalize World.alloc u24 _ = u30 at HR_30 HA5_30 HA6_30 hHeld ⊢
           generalize u24.heap.size = B5 at HA5_30 HG5 HO5 HN ⊢
           have HNE := hid (show B5 ≠ B6 from Ne.symm HN.out)
           refine wpAnyH_ready (rs := [5]) (by kernel_rfl) (by simp) ?_
           refine AllReadyH.cons (i := 5) rfl (fun K hKK => ?_) AllReadyH.nil
           go_simp
           (refine (HMv _).mono ?_)
           rintro e u31 ⟨rfl, g31⟩
           have HR_31 := hid (HR_30.out.below g31)
           have HA6_31 := hid (HA6_30.out.below g31)
           have HA5_31 := hid (HA5_30.out.below g31)
           dsimp only
           refine hKK.out _ _ HR_31.out.pl (fun hHeld => ?_)
           clear hKK K
           (try simp only [Act.put, pu1, pu2, pu3])
           (refine tk 6 165 ?_ rfl rfl (by kernel_rfl) (by rfl) ?_ (by assumption) ?_)
           rotate_left
           · (intro W hSW; go_simp; (try with_reducible rfl))
           simp only [Act.put, pu1, pu2, pu3]
           (refine tk 7 172 ?_ rfl rfl (by kernel_rfl) (by rfl) ?_ (by assumption) ?_)
           rotate_left
           · (intro W hSW; go_simp; (try with_reducible rfl))
           simp only [Act.put, pu1, pu2, pu3]
           (refine tk 8 173 ?_ rfl rfl (by kernel_rfl) (by rfl) ?_ (by assumption) ?_)
           rotate_left
           · (intro W hSW; go_simp; (try with_reducible rfl))
           simp only [Act.put, pu1, pu2, pu3]
           (refine tk 9 174 ?_ rfl rfl (by kernel_rfl) (by rfl) ?_ (by assumption) ?_)
           rotate_left
           · (intro W hSW; go_simp; (try with_reducible rfl))
           simp only [Act.put, pu1, pu2, pu3]
           as_aux_lemma =>
           refine wpAnyH_ready (rs := [12]) (by kernel_rfl) (by simp) ?_
           refine AllReadyH.cons (i := 12) rfl (fun K hKK => ?_) AllReadyH.nil
           obtain ⟨k0, k1⟩ := HA5_31.out.two
           have kf := HA5_31.out.frozen
           go_simp
           have HA5_32 : Hid (At ((u31.setCell ⟨B5, 0, none⟩ (.int .i32 X)).setCell ⟨B5, 1, none⟩ (.int .i32 Y)) B5 #[.int .i32 X, .int .i32 Y] 27) := hid (at_set (at_set HA5_31.out 0 _) 1 _)
           have HA6_32 := hid ((HA6_31.out.far (j := 0) (Ne.symm HNE.out) (.int .i32 X)).far (j := 1) (Ne.symm HNE.out) (.int .i32 Y))
           have HR_32 := hid ((HR_31.out.other HG5.out HO5.out 0 (.int .i32 X)).other HG5.out HO5.out 1 (.int .i32 Y))
           refine hKK.out _ _ HR_32.out.pl (fun hHeld => ?_)
           clear hKK K k0 k1 kf
           (try simp only [Act.put, pu1, pu2, pu3])
           generalize World.setCell (World.setCell u31 _ _) _ _ = u32 at HR_32 HA5_32 HA6_32 hHeld ⊢
           refine wpAnyH_ready (rs := [13]) (by kernel_rfl) (by simp) ?_
           refine AllReadyH.cons (i := 13) rfl (fun K hKK => ?_) AllReadyH.nil
           obtain ⟨k0, k1⟩ := HA6_32.out.two
           have kf := HA6_32.out.frozen
           go_simp
           have HA6_33 : Hid (At ((u32.setCell ⟨B6, 0, none⟩ (.int .i32 U)).setCell ⟨B6, 1, none⟩ (.int .i32 V')) B6 #[.int .i32 U, .int .i32 V'] 27) := hid (at_set (at_set HA6_32.out 0 _) 1 _)
           have HA5_33 := hid ((HA5_32.out.far (j := 0) HNE.out (.int .i32 U)).far (j := 1) HNE.out (.int .i32 V'))
           have HR_33 := hid ((HR_32.out.other HG6.out HO6.out 0 (.int .i32 U)).other HG6.out HO6.out 1 (.int .i32 V'))
           refine hKK.out _ _ HR_33.out.pl (fun hHeld => ?_)
           clear hKK K k0 k1 kf
           (try simp only [Act.put, pu1, pu2, pu3])
           generalize World.setCell (World.setCell u32 _ _) _ _ = u33 at HR_33 HA5_33 HA6_33 hHeld ⊢
           refine wpAnyH_ready (rs := [14]) (by kernel_rfl) (by simp) ?_
           refine AllReadyH.cons (i := 14) rfl (fun K hKK => ?_) AllReadyH.nil
           go_simp
           have HR_34 := HR_33
           have HA6_34 := HA6_33
           have HA5_34 := HA5_33
           refine hKK.out _ _ HR_34.out.pl (fun hHeld => ?_)
           clear hKK K
           (try simp only [Act.put, pu1, pu2, pu3])
           obtain ⟨u34, hu34⟩ : ∃ z, z = u33 := ⟨_, rfl⟩
           rw [← hu34] at HR_34 HA5_34 HA6_34 hHeld ⊢
           clear hu34
           refine wpAnyH_done (by kernel_rfl) ?_ _
           refine NoPanic.normal ?_
           go_wp2_with fail
           go_meet
           case rel => exact ⟨rfl, rfl, B5, B6, rfl, rfl, rfl, HR_34.out, HA5_34.out, HA6_34.out, HO5.out, HO6.out⟩
         refine AllReadyH.cons (i := 10) rfl (fun K hKK => ?_) ?_
         · go_simp
           have HA5_35 := hid (At.new u0 #[.int .i32 0, .int .i32 0] 27)
           have HR_35 := hid (HR_0.out.below (Ev.bal (Ev.br u0) (.cells #[.int .i32 0, .int .i32 0] 27)))
           have HG5 := hid HR_0.out.pl.lt
           have HO5 := hid (evs_off HR_0.out.ev)
           refine hKK.out _ _ HR_35.out.pl (fun hHeld => ?_)
           clear hKK K
           (try simp only [Act.put, pu1, pu2, pu3])
           generalize World.alloc u0 _ = u35 at HR_35 HA5_35 hHeld ⊢
           generalize u0.heap.size = B5 at HA5_35 HG5 HO5 ⊢
           refine wpAnyH_ready (rs := [4, 11]) (by kernel_rfl) (by simp) ?_
           refine AllReadyH.cons (i := 4) rfl (fun K hKK => ?_) ?_
           · go_simp
             (refine (rbox60_c _).mono ?_)
             rintro e u36 ⟨rfl, g36⟩
             have HR_36 := hid (HR_35.out.below g36)
             have HA5_36 := hid (HA5_35.out.below g36)
             dsimp only
             refine hKK.out _ _ HR_36.out.pl (fun hHeld => ?_)
             clear hKK K
             (try simp only [Act.put, pu1, pu2, pu3])
             refine wpAnyH_ready (rs := [5, 11]) (by kernel_rfl) (by simp) ?_
             refine AllReadyH.cons (i := 5) rfl (fun K hKK => ?_) ?_
             · go_simp
               (refine (HMv _).mono ?_)
               rintro e u37 ⟨rfl, g37⟩
               have HR_37 := hid (HR_36.out.below g37)
               have HA5_37 := hid (HA5_36.out.below g37)
               dsimp only
               refine hKK.out _ _ HR_37.out.pl (fun hHeld => ?_)
               clear hKK K
               (try simp only [Act.put, pu1, pu2, pu3])
               (refine tk 6 165 ?_ rfl rfl (by kernel_rfl) (by rfl) ?_ (by assumption) ?_)
               rotate_left
               · (intro W hSW; go_simp; (try with_reducible rfl))
               simp only [Act.put, pu1, pu2, pu3]
               (refine tk 7 172 ?_ rfl rfl (by kernel_rfl) (by rfl) ?_ (by assumption) ?_)
               rotate_left
               · (intro W hSW; go_simp; (try with_reducible rfl))
               simp only [Act.put, pu1, pu2, pu3]
               (refine tk 8 173 ?_ rfl rfl (by kernel_rfl) (by rfl) ?_ (by assumption) ?_)
               rotate_left
               · (intro W hSW; go_simp; (try with_reducible rfl))
               simp only [Act.put, pu1, pu2, pu3]
               (refine tk 9 174 ?_ rfl rfl (by kernel_rfl) (by rfl) ?_ (by assumption) ?_)
               rotate_left
               · (intro W hSW; go_simp; (try with_reducible rfl))
               simp only [Act.put, pu1, pu2, pu3]
               refine wpAnyH_ready (rs := [11]) (by kernel_rfl) (by simp) ?_
               refine AllReadyH.cons (i := 11) rfl (fun K hKK => ?_) AllReadyH.nil
               go_simp
               have HA6_38 := hid (At.new u37 #[.int .i32 0, .int .i32 0] 27)
               have HR_38 := hid (HR_37.out.below (Ev.bal (Ev.br u37) (.cells #[.int .i32 0, .int .i32 0] 27)))
               have HG6 := hid HR_37.out.pl.lt
               have HO6 := hid (evs_off HR_37.out.ev)
               have HA5_38 := hid (HA5_37.out.more (.cells #[.int .i32 0, .int .i32 0] 27))
               have HN := hid (Nat.ne_of_lt HA5_37.out.lt)
               refine hKK.out _ _ HR_38.out.pl (fun hHeld => ?_)
               clear hKK K
               (try simp only [Act.put, pu1, pu2, pu3])
               generalize World.alloc u37 _ = u38 at HR_38 HA6_38 HA5_38 hHeld ⊢
               generalize u37.heap.size = B6 at HA6_38 HG6 HO6 HN ⊢
               have HNE := hid (show B5 ≠ B6 from HN.out)
               as_aux_lemma =>
               refine wpAnyH_ready (rs := [12]) (by kernel_rfl) (by simp) ?_
               refine AllReadyH.cons (i := 12) rfl (fun K hKK => ?_) AllReadyH.nil
               obtain ⟨k0, k1⟩ := HA5_38.out.two
               have kf := HA5_38.out.frozen
               go_simp
               have HA5_39 : Hid (At ((u38.setCell ⟨B5, 0, none⟩ (.int .i32 X)).setCell ⟨B5, 1, none⟩ (.int .i32 Y)) B5 #[.int .i32 X, .int .i32 Y] 27) := hid (at_set (at_set HA5_38.out 0 _) 1 _)
               have HA6_39 := hid ((HA6_38.out.far (j := 0) (Ne.symm HNE.out) (.int .i32 X)).far (j := 1) (Ne.symm HNE.out) (.int .i32 Y))
               have HR_39 := hid ((HR_38.out.other HG5.out HO5.out 0 (.int .i32 X)).other HG5.out HO5.out 1 (.int .i32 Y))
               refine hKK.out _ _ HR_39.out.pl (fun hHeld => ?_)
               clear hKK K k0 k1 kf
               (try simp only [Act.put, pu1, pu2, pu3])
               generalize World.setCell (World.setCell u38 _ _) _ _ = u39 at HR_39 HA5_39 HA6_39 hHeld ⊢
               refine wpAnyH_ready (rs := [13]) (by kernel_rfl) (by simp) ?_
               refine AllReadyH.cons (i := 13) rfl (fun K hKK => ?_) AllReadyH.nil
               obtain ⟨k0, k1⟩ := HA6_39.out.two
               have kf := HA6_39.out.frozen
               go_simp
               have HA6_40 : Hid (At ((u39.setCell ⟨B6, 0, none⟩ (.int .i32 U)).setCell ⟨B6, 1, none⟩ (.int .i32 V')) B6 #[.int .i32 U, .int .i32 V'] 27) := hid (at_set (at_set HA6_39.out 0 _) 1 _)
               have HA5_40 := hid ((HA5_39.out.far (j := 0) HNE.out (.int .i32 U)).far (j := 1) HNE.out (.int .i32 V'))
               have HR_40 := hid ((HR_39.out.other HG6.out HO6.out 0 (.int .i32 U)).other HG6.out HO6.out 1 (.int .i32 V'))
               refine hKK.out _ _ HR_40.out.pl (fun hHeld => ?_)
               clear hKK K k0 k1 kf
               (try simp only [Act.put, pu1, pu2, pu3])
               generalize World.setCell (World.setCell u39 _ _) _ _ = u40 at HR_40 HA5_40 HA6_40 hHeld ⊢
               refine wpAnyH_ready (rs := [14]) (by kernel_rfl) (by simp) ?_
               refine AllReadyH.cons (i := 14) rfl (fun K hKK => ?_) AllReadyH.nil
               go_simp
               have HR_41 := HR_40
               have HA5_41 := HA5_40
               have HA6_41 := HA6_40
               refine hKK.out _ _ HR_41.out.pl (fun hHeld => ?_)
               clear hKK K
               (try simp only [Act.put, pu1, pu2, pu3])
               obtain ⟨u41, hu41⟩ : ∃ z, z = u40 := ⟨_, rfl⟩
               rw [← hu41] at HR_41 HA5_41 HA6_41 hHeld ⊢
               clear hu41
               refine wpAnyH_done (by kernel_rfl) ?_ _
               refine NoPanic.normal ?_
               go_wp2_with fail
               go_meet
               case rel => exact ⟨rfl, rfl, B5, B6, rfl, rfl, rfl, HR_41.out, HA5_41.out, HA6_41.out, HO5.out, HO6.out⟩
             refine AllReadyH.cons (i := 11) rfl (fun K hKK => ?_) AllReadyH.nil
             go_simp
             have HA6_42 := hid (At.new u36 #[.int .i32 0, .int .i32 0] 27)
             have HR_42 := hid (HR_36.out.below (Ev.bal (Ev.br u36) (.cells #[.int .i32 0, .int .i32 0] 27)))
             have HG6 := hid HR_36.out.pl.lt
             have HO6 := hid (evs_off HR_36.out.ev)
             have HA5_42 := hid (HA5_36.out.more (.cells #[.int .i32 0, .int .i32 0] 27))
             have HN := hid (Nat.ne_of_lt HA5_36.out.lt)
             refine hKK.out _ _ HR_42.out.pl (fun hHeld => ?_)
             clear hKK K
             (try simp only [Act.put, pu1, pu2, pu3])
             generalize World.alloc u36 _ = u42 at HR_42 HA6_42 HA5_42 hHeld ⊢
             generalize u36.heap.size = B6 at HA6_42 HG6 HO6 HN ⊢
             have HNE := hid (show B5 ≠ B6 from HN.out)
             refine wpAnyH_ready (rs := [5]) (by kernel_rfl) (by simp) ?_
             refine AllReadyH.cons (i := 5) rfl (fun K hKK => ?_) AllReadyH.nil
             go_simp
             (refine (HMv _).mono ?_)
             rintro e u43 ⟨rfl, g43⟩
             have HR_43 := hid (HR_42.out.below g43)
             have HA5_43 := hid (HA5_42.out.below g43)
             have HA6_43 := hid (HA6_42.out.below g43)
             dsimp only
             refine hKK.out _ _ HR_43.out.pl (fun hHeld => ?_)
             clear hKK K
             (try simp only [Act.put, pu1, pu2, pu3])
             (refine tk 6 165 ?_ rfl rfl (by kernel_rfl) (by rfl) ?_ (by assumption) ?_)
             rotate_left
             · (intro W hSW; go_simp; (try with_reducible rfl))
             simp only [Act.put, pu1, pu2, pu3]
             (refine tk 7 172 ?_ rfl rfl (by kernel_rfl) (by rfl) ?_ (by assumption) ?_)
             rotate_left
             · (intro W hSW; go_simp; (try with_reducible rfl))
             simp only [Act.put, pu1, pu2, pu3]
             (refine tk 8 173 ?_ rfl rfl (by kernel_rfl) (by rfl) ?_ (by assumption) ?_)
             rotate_left
             · (intro W hSW; go_simp; (try with_reducible rfl))
             simp only [Act.put, pu1, pu2, pu3]
             (refine tk 9 174 ?_ rfl rfl (by kernel_rfl) (by rfl) ?_ (by assumption) ?_)
             rotate_left
             · (intro W hSW; go_simp; (try with_reducible rfl))
             simp only [Act.put, pu1, pu2, pu3]
             as_aux_lemma =>
             refine wpAnyH_ready (rs := [12]) (by kernel_rfl) (by simp) ?_
             refine AllReadyH.cons (i := 12) rfl (fun K hKK => ?_) AllReadyH.nil
             obtain ⟨k0, k1⟩ := HA5_43.out.two
             have kf := HA5_43.out.frozen
             go_simp
             have HA5_44 : Hid (At ((u43.setCell ⟨B5, 0, none⟩ (.int .i32 X)).setCell ⟨B5, 1, none⟩ (.int .i32 Y)) B5 #[.int .i32 X, .int .i32 Y] 27) := hid (at_set (at_set HA5_43.out 0 _) 1 _)
             have HA6_44 := hid ((HA6_43.out.far (j := 0) (Ne.symm HNE.out) (.int .i32 X)).far (j := 1) (Ne.symm HNE.out) (.int .i32 Y))
             have HR_44 := hid ((HR_43.out.other HG5.out HO5.out 0 (.int .i32 X)).other HG5.out HO5.out 1 (.int .i32 Y))
             refine hKK.out _ _ HR_44.out.pl (fun hHeld => ?_)
             clear hKK K k0 k1 kf
             (try simp only [Act.put, pu1, pu2, pu3])
             generalize World.setCell (World.setCell u43 _ _) _ _ = u44 at HR_44 HA5_44 HA6_44 hHeld ⊢
             refine wpAnyH_ready (rs := [13]) (by kernel_rfl) (by simp) ?_
             refine AllReadyH.cons (i := 13) rfl (fun K hKK => ?_) AllReadyH.nil
             obtain ⟨k0, k1⟩ := HA6_44.out.two
             have kf := HA6_44.out.frozen
             go_simp
             have HA6_45 : Hid (At ((u44.setCell ⟨B6, 0, none⟩ (.int .i32 U)).setCell ⟨B6, 1, none⟩ (.int .i32 V')) B6 #[.int .i32 U, .int .i32 V'] 27) := hid (at_set (at_set HA6_44.out 0 _) 1 _)
             have HA5_45 := hid ((HA5_44.out.far (j := 0) HNE.out (.int .i32 U)).far (j := 1) HNE.out (.int .i32 V'))
             have HR_45 := hid ((HR_44.out.other HG6.out HO6.out 0 (.int .i32 U)).other HG6.out HO6.out 1 (.int .i32 V'))
             refine hKK.out _ _ HR_45.out.pl (fun hHeld => ?_)
             clear hKK K k0 k1 kf
             (try simp only [Act.put, pu1, pu2, pu3])
             generalize World.setCell (World.setCell u44 _ _) _ _ = u45 at HR_45 HA5_45 HA6_45 hHeld ⊢
             refine wpAnyH_ready (rs := [14]) (by kernel_rfl) (by simp) ?_
             refine AllReadyH.cons (i := 14) rfl (fun K hKK => ?_) AllReadyH.nil
             go_simp
             have HR_46 := HR_45
             have HA5_46 := HA5_45
             have HA6_46 := HA6_45
             refine hKK.out _ _ HR_46.out.pl (fun hHeld => ?_)
             clear hKK K
             (try simp only [Act.put, pu1, pu2, pu3])
             obtain ⟨u46, hu46⟩ : ∃ z, z = u45 := ⟨_, rfl⟩
             rw [← hu46] at HR_46 HA5_46 HA6_46 hHeld ⊢
             clear hu46
             refine wpAnyH_done (by kernel_rfl) ?_ _
             refine NoPanic.normal ?_
             go_wp2_with fail
             go_meet
             case rel => exact ⟨rfl, rfl, B5, B6, rfl, rfl, rfl, HR_46.out, HA5_46.out, HA6_46.out, HO5.out, HO6.out⟩
           refine AllReadyH.cons (i := 11) rfl (fun K hKK => ?_) AllReadyH.nil
           go_simp
           have HA6_47 := hid (At.new u35 #[.int .i32 0, .int .i32 0] 27)
           have HR_47 := hid (HR_35.out.below (Ev.bal (Ev.br u35) (.cells #[.int .i32 0, .int .i32 0] 27)))
           have HG6 := hid HR_35.out.pl.lt
           have HO6 := hid (evs_off HR_35.out.ev)
           have HA5_47 := hid (HA5_35.out.more (.cells #[.int .i32 0, .int .i32 0] 27))
           have HN := hid (Nat.ne_of_lt HA5_35.out.lt)
           refine hKK.out _ _ HR_47.out.pl (fun hHeld => ?_)
           clear hKK K
           (try simp only [Act.put, pu1, pu2, pu3])
           generalize World.alloc u35 _ = u47 at HR_47 HA6_47 HA5_47 hHeld ⊢
           generalize u35.heap.size = B6 at HA6_47 HG6 HO6 HN ⊢
           have HNE := hid (show B5 ≠ B6 from HN.out)
           refine wpAnyH_ready (rs := [4]) (by kernel_rfl) (by simp) ?_
           refine AllReadyH.cons (i := 4) rfl (fun K hKK => ?_) AllReadyH.nil
           go_simp
           (refine (rbox60_c _).mono ?_)
           rintro e u48 ⟨rfl, g48⟩
           have HR_48 := hid (HR_47.out.below g48)
           have HA5_48 := hid (HA5_47.out.below g48)
           have HA6_48 := hid (HA6_47.out.below g48)
           dsimp only
           refine hKK.out _ _ HR_48.out.pl (fun hHeld => ?_)
           clear hKK K
           (try simp only [Act.put, pu1, pu2, pu3])
           refine wpAnyH_ready (rs := [5]) (by kernel_rfl) (by simp) ?_
           refine AllReadyH.cons (i := 5) rfl (fun K hKK => ?_) AllReadyH.nil
           go_simp
           (refine (HMv _).mono ?_)
           rintro e u49 ⟨rfl, g49⟩
           have HR_49 := hid (HR_48.out.below g49)
           have HA5_49 := hid (HA5_48.out.below g49)
           have HA6_49 := hid (HA6_48.out.below g49)
           dsimp only
           refine hKK.out _ _ HR_49.out.pl (fun hHeld => ?_)
           clear hKK K
           (try simp only [Act.put, pu1, pu2, pu3])
           (refine tk 6 165 ?_ rfl rfl (by kernel_rfl) (by rfl) ?_ (by assumption) ?_)
           rotate_left
           · (intro W hSW; go_simp; (try with_reducible rfl))
           simp only [Act.put, pu1, pu2, pu3]
           (refine tk 7 172 ?_ rfl rfl (by kernel_rfl) (by rfl) ?_ (by assumption) ?_)
           rotate_left
           · (intro W hSW; go_simp; (try with_reducible rfl))
           simp only [Act.put, pu1, pu2, pu3]
           (refine tk 8 173 ?_ rfl rfl (by kernel_rfl) (by rfl) ?_ (by assumption) ?_)
           rotate_left
           · (intro W hSW; go_simp; (try with_reducible rfl))
           simp only [Act.put, pu1, pu2, pu3]
           (refine tk 9 174 ?_ rfl rfl (by kernel_rfl) (by rfl) ?_ (by assumption) ?_)
           rotate_left
           · (intro W hSW; go_simp; (try with_reducible rfl))
           simp only [Act.put, pu1, pu2, pu3]
           as_aux_lemma =>
           refine wpAnyH_ready (rs := [12]) (by kernel_rfl) (by simp) ?_
           refine AllReadyH.cons (i := 12) rfl (fun K hKK => ?_) AllReadyH.nil
           obtain ⟨k0, k1⟩ := HA5_49.out.two
           have kf := HA5_49.out.frozen
           go_simp
           have HA5_50 : Hid (At ((u49.setCell ⟨B5, 0, none⟩ (.int .i32 X)).setCell ⟨B5, 1, none⟩ (.int .i32 Y)) B5 #[.int .i32 X, .int .i32 Y] 27) := hid (at_set (at_set HA5_49.out 0 _) 1 _)
           have HA6_50 := hid ((HA6_49.out.far (j := 0) (Ne.symm HNE.out) (.int .i32 X)).far (j := 1) (Ne.symm HNE.out) (.int .i32 Y))
           have HR_50 := hid ((HR_49.out.other HG5.out HO5.out 0 (.int .i32 X)).other HG5.out HO5.out 1 (.int .i32 Y))
           refine hKK.out _ _ HR_50.out.pl (fun hHeld => ?_)
           clear hKK K k0 k1 kf
           (try simp only [Act.put, pu1, pu2, pu3])
           generalize World.setCell (World.setCell u49 _ _) _ _ = u50 at HR_50 HA5_50 HA6_50 hHeld ⊢
           refine wpAnyH_ready (rs := [13]) (by kernel_rfl) (by simp) ?_
           refine AllReadyH.cons (i := 13) rfl (fun K hKK => ?_) AllReadyH.nil
           obtain ⟨k0, k1⟩ := HA6_50.out.two
           have kf := HA6_50.out.frozen
           go_simp
           have HA6_51 : Hid (At ((u50.setCell ⟨B6, 0, none⟩ (.int .i32 U)).setCell ⟨B6, 1, none⟩ (.int .i32 V')) B6 #[.int .i32 U, .int .i32 V'] 27) := hid (at_set (at_set HA6_50.out 0 _) 1 _)
           have HA5_51 := hid ((HA5_50.out.far (j := 0) HNE.out (.int .i32 U)).far (j := 1) HNE.out (.int .i32 V'))
           have HR_51 := hid ((HR_50.out.other HG6.out HO6.out 0 (.int .i32 U)).other HG6.out HO6.out 1 (.int .i32 V'))
           refine hKK.out _ _ HR_51.out.pl (fun hHeld => ?_)
           clear hKK K k0 k1 kf
           (try simp only [Act.put, pu1, pu2, pu3])
           generalize World.setCell (World.setCell u50 _ _) _ _ = u51 at HR_51 HA5_51 HA6_51 hHeld ⊢
           refine wpAnyH_ready (rs := [14]) (by kernel_rfl) (by simp) ?_
           refine AllReadyH.cons (i := 14) rfl (fun K hKK => ?_) AllReadyH.nil
           go_simp
           have HR_52 := HR_51
           have HA5_52 := HA5_51
           have HA6_52 := HA6_51
           refine hKK.out _ _ HR_52.out.pl (fun hHeld => ?_)
           clear hKK K
           (try simp only [Act.put, pu1, pu2, pu3])
           obtain ⟨u52, hu52⟩ : ∃ z, z = u51 := ⟨_, rfl⟩
           rw [← hu52] at HR_52 HA5_52 HA6_52 hHeld ⊢
           clear hu52
           refine wpAnyH_done (by kernel_rfl) ?_ _
           refine NoPanic.normal ?_
           go_wp2_with fail
           go_meet
           case rel => exact ⟨rfl, rfl, B5, B6, rfl, rfl, rfl, HR_52.out, HA5_52.out, HA6_52.out, HO5.out, HO6.out⟩
         refine AllReadyH.cons (i := 11) rfl (fun K hKK => ?_) AllReadyH.nil
         go_simp
         have HA6_53 := hid (At.new u0 #[.int .i32 0, .int .i32 0] 27)
         have HR_53 := hid (HR_0.out.below (Ev.bal (Ev.br u0) (.cells #[.int .i32 0, .int .i32 0] 27)))
         have HG6 := hid HR_0.out.pl.lt
         have HO6 := hid (evs_off HR_0.out.ev)
         refine hKK.out _ _ HR_53.out.pl (fun hHeld => ?_)
         clear hKK K
         (try simp only [Act.put, pu1, pu2, pu3])
         generalize World.alloc u0 _ = u53 at HR_53 HA6_53 hHeld ⊢
         generalize u0.heap.size = B6 at HA6_53 HG6 HO6 ⊢
         refine wpAnyH_ready (rs := [4, 10]) (by kernel_rfl) (by simp) ?_
         refine AllReadyH.cons (i := 4) rfl (fun K hKK => ?_) ?_
         · go_simp
           (refine (rbox60_c _).mono ?_)
           rintro e u54 ⟨rfl, g54⟩
           have HR_54 := hid (HR_53.out.below g54)
           have HA6_54 := hid (HA6_53.out.below g54)
           dsimp only
           refine hKK.out _ _ HR_54.out.pl (fun hHeld => ?_)
           clear hKK K
           (try simp only [Act.put, pu1, pu2, pu3])
           refine wpAnyH_ready (rs := [5, 10]) (by kernel_rfl) (by simp) ?_
           refine AllReadyH.cons (i := 5) rfl (fun K hKK => ?_) ?_
           · go_simp
             (refine (HMv _).mono ?_)
             rintro e u55 ⟨rfl, g55⟩
             have HR_55 := hid (HR_54.out.below g55)
             have HA6_55 := hid (HA6_54.out.below g55)
             dsimp only
             refine hKK.out _ _ HR_55.out.pl (fun hHeld => ?_)
             clear hKK K
             (try simp only [Act.put, pu1, pu2, pu3])
             (refine tk 6 165 ?_ rfl rfl (by kernel_rfl) (by rfl) ?_ (by assumption) ?_)
             rotate_left
             · (intro W hSW; go_simp; (try with_reducible rfl))
             simp only [Act.put, pu1, pu2, pu3]
             (refine tk 7 172 ?_ rfl rfl (by kernel_rfl) (by rfl) ?_ (by assumption) ?_)
             rotate_left
             · (intro W hSW; go_simp; (try with_reducible rfl))
             simp only [Act.put, pu1, pu2, pu3]
             (refine tk 8 173 ?_ rfl rfl (by kernel_rfl) (by rfl) ?_ (by assumption) ?_)
             rotate_left
             · (intro W hSW; go_simp; (try with_reducible rfl))
             simp only [Act.put, pu1, pu2, pu3]
             (refine tk 9 174 ?_ rfl rfl (by kernel_rfl) (by rfl) ?_ (by assumption) ?_)
             rotate_left
             · (intro W hSW; go_simp; (try with_reducible rfl))
             simp only [Act.put, pu1, pu2, pu3]
             refine wpAnyH_ready (rs := [10]) (by kernel_rfl) (by simp) ?_
             refine AllReadyH.cons (i := 10) rfl (fun K hKK => ?_) AllReadyH.nil
             go_simp
             have HA5_56 := hid (At.new u55 #[.int .i32 0, .int .i32 0] 27)
             have HR_56 := hid (HR_55.out.below (Ev.bal (Ev.br u55) (.cells #[.int .i32 0, .int .i32 0] 27)))
             have HG5 := hid HR_55.out.pl.lt
             have HO5 := hid (evs_off HR_55.out.ev)
             have HA6_56 := hid (HA6_55.out.more (.cells #[.int .i32 0, .int .i32 0] 27))
             have HN := hid (Nat.ne_of_lt HA6_55.out.lt)
             refine hKK.out _ _ HR_56.out.pl (fun hHeld => ?_)
             clear hKK K
             (try simp only [Act.put, pu1, pu2, pu3])
             generalize World.alloc u55 _ = u56 at HR_56 HA5_56 HA6_56 hHeld ⊢
             generalize u55.heap.size = B5 at HA5_56 HG5 HO5 HN ⊢
             have HNE := hid (show B5 ≠ B6 from Ne.symm HN.out)
             as_aux_lemma =>
             refine wpAnyH_ready (rs := [12]) (by kernel_rfl) (by simp) ?_
             refine AllReadyH.cons (i := 12) rfl (fun K hKK => ?_) AllReadyH.nil
             obtain ⟨k0, k1⟩ := HA5_56.out.two
             have kf := HA5_56.out.frozen
             go_simp
             have HA5_57 : Hid (At ((u56.setCell ⟨B5, 0, none⟩ (.int .i32 X)).setCell ⟨B5, 1, none⟩ (.int .i32 Y)) B5 #[.int .i32 X, .int .i32 Y] 27) := hid (at_set (at_set HA5_56.out 0 _) 1 _)
             have HA6_57 := hid ((HA6_56.out.far (j := 0) (Ne.symm HNE.out) (.int .i32 X)).far (j := 1) (Ne.symm HNE.out) (.int .i32 Y))
             have HR_57 := hid ((HR_56.out.other HG5.out HO5.out 0 (.int .i32 X)).other HG5.out HO5.out 1 (.int .i32 Y))
             refine hKK.out _ _ HR_57.out.pl (fun hHeld => ?_)
             clear hKK K k0 k1 kf
             (try simp only [Act.put, pu1, pu2, pu3])
             generalize World.setCell (World.setCell u56 _ _) _ _ = u57 at HR_57 HA5_57 HA6_57 hHeld ⊢
             refine wpAnyH_ready (rs := [13]) (by kernel_rfl) (by simp) ?_
             refine AllReadyH.cons (i := 13) rfl (fun K hKK => ?_) AllReadyH.nil
             obtain ⟨k0, k1⟩ := HA6_57.out.two
             have kf := HA6_57.out.frozen
             go_simp
             have HA6_58 : Hid (At ((u57.setCell ⟨B6, 0, none⟩ (.int .i32 U)).setCell ⟨B6, 1, none⟩ (.int .i32 V')) B6 #[.int .i32 U, .int .i32 V'] 27) := hid (at_set (at_set HA6_57.out 0 _) 1 _)
             have HA5_58 := hid ((HA5_57.out.far (j := 0) HNE.out (.int .i32 U)).far (j := 1) HNE.out (.int .i32 V'))
             have HR_58 := hid ((HR_57.out.other HG6.out HO6.out 0 (.int .i32 U)).other HG6.out HO6.out 1 (.int .i32 V'))
             refine hKK.out _ _ HR_58.out.pl (fun hHeld => ?_)
             clear hKK K k0 k1 kf
             (try simp only [Act.put, pu1, pu2, pu3])
             generalize World.setCell (World.setCell u57 _ _) _ _ = u58 at HR_58 HA5_58 HA6_58 hHeld ⊢
             refine wpAnyH_ready (rs := [14]) (by kernel_rfl) (by simp) ?_
             refine AllReadyH.cons (i := 14) rfl (fun K hKK => ?_) AllReadyH.nil
             go_simp
             have HR_59 := HR_58
             have HA6_59 := HA6_58
             have HA5_59 := HA5_58
             refine hKK.out _ _ HR_59.out.pl (fun hHeld => ?_)
             clear hKK K
             (try simp only [Act.put, pu1, pu2, pu3])
             obtain ⟨u59, hu59⟩ : ∃ z, z = u58 := ⟨_, rfl⟩
             rw [← hu59] at HR_59 HA5_59 HA6_59 hHeld ⊢
             clear hu59
             refine wpAnyH_done (by kernel_rfl) ?_ _
             refine NoPanic.normal ?_
             go_wp2_with fail
             go_meet
             case rel => exact ⟨rfl, rfl, B5, B6, rfl, rfl, rfl, HR_59.out, HA5_59.out, HA6_59.out, HO5.out, HO6.out⟩
           refine AllReadyH.cons (i := 10) rfl (fun K hKK => ?_) AllReadyH.nil
           go_simp
           have HA5_60 := hid (At.new u54 #[.int .i32 0, .int .i32 0] 27)
           have HR_60 := hid (HR_54.out.below (Ev.bal (Ev.br u54) (.cells #[.int .i32 0, .int .i32 0] 27)))
           have HG5 := hid HR_54.out.pl.lt
           have HO5 := hid (evs_off HR_54.out.ev)
           have HA6_60 := hid (HA6_54.out.more (.cells #[.int .i32 0, .int .i32 0] 27))
           have HN := hid (Nat.ne_of_lt HA6_54.out.lt)
           refine hKK.out _ _ HR_60.out.pl (fun hHeld => ?_)
           clear hKK K
           (try simp only [Act.put, pu1, pu2, pu3])
           generalize World.alloc u54 _ = u60 at HR_60 HA5_60 HA6_60 hHeld ⊢
           generalize u54.heap.size = B5 at HA5_60 HG5 HO5 HN ⊢
           have HNE := hid (show B5 ≠ B6 from Ne.symm HN.out)
           refine wpAnyH_ready (rs := [5]) (by kernel_rfl) (by simp) ?_
           refine AllReadyH.cons (i := 5) rfl (fun K hKK => ?_) AllReadyH.nil
           go_simp
           (refine (HMv _).mono ?_)
           rintro e u61 ⟨rfl, g61⟩
           have HR_61 := hid (HR_60.out.below g61)
           have HA6_61 := hid (HA6_60.out.below g61)
           have HA5_61 := hid (HA5_60.out.below g61)
           dsimp only
           refine hKK.out _ _ HR_61.out.pl (fun hHeld => ?_)
           clear hKK K
           (try simp only [Act.put, pu1, pu2, pu3])
           (refine tk 6 165 ?_ rfl rfl (by kernel_rfl) (by rfl) ?_ (by assumption) ?_)
           rotate_left
           · (intro W hSW; go_simp; (try with_reducible rfl))
           simp only [Act.put, pu1, pu2, pu3]
           (refine tk 7 172 ?_ rfl rfl (by kernel_rfl) (by rfl) ?_ (by assumption) ?_)
           rotate_left
           · (intro W hSW; go_simp; (try with_reducible rfl))
           simp only [Act.put, pu1, pu2, pu3]
           (refine tk 8 173 ?_ rfl rfl (by kernel_rfl) (by rfl) ?_ (by assumption) ?_)
           rotate_left
           · (intro W hSW; go_simp; (try with_reducible rfl))
           simp only [Act.put, pu1, pu2, pu3]
           (refine tk 9 174 ?_ rfl rfl (by kernel_rfl) (by rfl) ?_ (by assumption) ?_)
           rotate_left
           · (intro W hSW; go_simp; (try with_reducible rfl))
           simp only [Act.put, pu1, pu2, pu3]
           as_aux_lemma =>
           refine wpAnyH_ready (rs := [12]) (by kernel_rfl) (by simp) ?_
           refine AllReadyH.cons (i := 12) rfl (fun K hKK => ?_) AllReadyH.nil
           obtain ⟨k0, k1⟩ := HA5_61.out.two
           have kf := HA5_61.out.frozen
           go_simp
           have HA5_62 : Hid (At ((u61.setCell ⟨B5, 0, none⟩ (.int .i32 X)).setCell ⟨B5, 1, none⟩ (.int .i32 Y)) B5 #[.int .i32 X, .int .i32 Y] 27) := hid (at_set (at_set HA5_61.out 0 _) 1 _)
           have HA6_62 := hid ((HA6_61.out.far (j := 0) (Ne.symm HNE.out) (.int .i32 X)).far (j := 1) (Ne.symm HNE.out) (.int .i32 Y))
           have HR_62 := hid ((HR_61.out.other HG5.out HO5.out 0 (.int .i32 X)).other HG5.out HO5.out 1 (.int .i32 Y))
           refine hKK.out _ _ HR_62.out.pl (fun hHeld => ?_)
           clear hKK K k0 k1 kf
           (try simp only [Act.put, pu1, pu2, pu3])
           generalize World.setCell (World.setCell u61 _ _) _ _ = u62 at HR_62 HA5_62 HA6_62 hHeld ⊢
           refine wpAnyH_ready (rs := [13]) (by kernel_rfl) (by simp) ?_
           refine AllReadyH.cons (i := 13) rfl (fun K hKK => ?_) AllReadyH.nil
           obtain ⟨k0, k1⟩ := HA6_62.out.two
           have kf := HA6_62.out.frozen
           go_simp
           have HA6_63 : Hid (At ((u62.setCell ⟨B6, 0, none⟩ (.int .i32 U)).setCell ⟨B6, 1, none⟩ (.int .i32 V')) B6 #[.int .i32 U, .int .i32 V'] 27) := hid (at_set (at_set HA6_62.out 0 _) 1 _)
           have HA5_63 := hid ((HA5_62.out.far (j := 0) HNE.out (.int .i32 U)).far (j := 1) HNE.out (.int .i32 V'))
           have HR_63 := hid ((HR_62.out.other HG6.out HO6.out 0 (.int .i32 U)).other HG6.out HO6.out 1 (.int .i32 V'))
           refine hKK.out _ _ HR_63.out.pl (fun hHeld => ?_)
           clear hKK K k0 k1 kf
           (try simp only [Act.put, pu1, pu2, pu3])
           generalize World.setCell (World.setCell u62 _ _) _ _ = u63 at HR_63 HA5_63 HA6_63 hHeld ⊢
           refine wpAnyH_ready (rs := [14]) (by kernel_rfl) (by simp) ?_
           refine AllReadyH.cons (i := 14) rfl (fun K hKK => ?_) AllReadyH.nil
           go_simp
           have HR_64 := HR_63
           have HA6_64 := HA6_63
           have HA5_64 := HA5_63
           refine hKK.out _ _ HR_64.out.pl (fun hHeld => ?_)
           clear hKK K
           (try simp only [Act.put, pu1, pu2, pu3])
           obtain ⟨u64, hu64⟩ : ∃ z, z = u63 := ⟨_, rfl⟩
           rw [← hu64] at HR_64 HA5_64 HA6_64 hHeld ⊢
           clear hu64
           refine wpAnyH_done (by kernel_rfl) ?_ _
           refine NoPanic.normal ?_
           go_wp2_with fail
           go_meet
           case rel => exact ⟨rfl, rfl, B5, B6, rfl, rfl, rfl, HR_64.out, HA5_64.out, HA6_64.out, HO5.out, HO6.out⟩
         refine AllReadyH.cons (i := 10) rfl (fun K hKK => ?_) AllReadyH.nil
         go_simp
         have HA5_65 := hid (At.new u53 #[.int .i32 0, .int .i32 0] 27)
         have HR_65 := hid (HR_53.out.below (Ev.bal (Ev.br u53) (.cells #[.int .i32 0, .int .i32 0] 27)))
         have HG5 := hid HR_53.out.pl.lt
         have HO5 := hid (evs_off HR_53.out.ev)
         have HA6_65 := hid (HA6_53.out.more (.cells #[.int .i32 0, .int .i32 0] 27))
         have HN := hid (Nat.ne_of_lt HA6_53.out.lt)
         refine hKK.out _ _ HR_65.out.pl (fun hHeld => ?_)
         clear hKK K
         (try simp only [Act.put, pu1, pu2, pu3])
         generalize World.alloc u53 _ = u65 at HR_65 HA5_65 HA6_65 hHeld ⊢
         generalize u53.heap.size = B5 at HA5_65 HG5 HO5 HN ⊢
         have HNE := hid (show B5 ≠ B6 from Ne.symm HN.out)
         refine wpAnyH_ready (rs := [4]) (by kernel_rfl) (by simp) ?_
         refine AllReadyH.cons (i := 4) rfl (fun K hKK => ?_) AllReadyH.nil
         go_simp
         (refine (rbox60_c _).mono ?_)
         rintro e u66 ⟨rfl, g66⟩
         have HR_66 := hid (HR_65.out.below g66)
         have HA6_66 := hid (HA6_65.out.below g66)
         have HA5_66 := hid (HA5_65.out.below g66)
         dsimp only
         refine hKK.out _ _ HR_66.out.pl (fun hHeld => ?_)
         clear hKK K
         (try simp only [Act.put, pu1, pu2, pu3])
         refine wpAnyH_ready (rs := [5]) (by kernel_rfl) (by simp) ?_
         refine AllReadyH.cons (i := 5) rfl (fun K hKK => ?_) AllReadyH.nil
         go_simp
         (refine (HMv _).mono ?_)
         rintro e u67 ⟨rfl, g67⟩
         have HR_67 := hid (HR_66.out.below g67)
         have HA6_67 := hid (HA6_66.out.below g67)
         have HA5_67 := hid (HA5_66.out.below g67)
         dsimp only
         refine hKK.out _ _ HR_67.out.pl (fun hHeld => ?_)
         clear hKK K
         (try simp only [Act.put, pu1, pu2, pu3])
         (refine tk 6 165 ?_ rfl rfl (by kernel_rfl) (by rfl) ?_ (by assumption) ?_)
         rotate_left
         · (intro W hSW; go_simp; (try with_reducible rfl))
         simp only [Act.put, pu1, pu2, pu3]
         (refine tk 7 172 ?_ rfl rfl (by kernel_rfl) (by rfl) ?_ (by assumption) ?_)
         rotate_left
         · (intro W hSW; go_simp; (try with_reducible rfl))
         simp only [Act.put, pu1, pu2, pu3]
         (refine tk 8 173 ?_ rfl rfl (by kernel_rfl) (by rfl) ?_ (by assumption) ?_)
         rotate_left
         · (intro W hSW; go_simp; (try with_reducible rfl))
         simp only [Act.put, pu1, pu2, pu3]
         (refine tk 9 174 ?_ rfl rfl (by kernel_rfl) (by rfl) ?_ (by assumption) ?_)
         rotate_left
         · (intro W hSW; go_simp; (try with_reducible rfl))
         simp only [Act.put, pu1, pu2, pu3]
         as_aux_lemma =>
         refine wpAnyH_ready (rs := [12]) (by kernel_rfl) (by simp) ?_
         refine AllReadyH.cons (i := 12) rfl (fun K hKK => ?_) AllReadyH.nil
         obtain ⟨k0, k1⟩ := HA5_67.out.two
         have kf := HA5_67.out.frozen
         go_simp
         have HA5_68 : Hid (At ((u67.setCell ⟨B5, 0, none⟩ (.int .i32 X)).setCell ⟨B5, 1, none⟩ (.int .i32 Y)) B5 #[.int .i32 X, .int .i32 Y] 27) := hid (at_set (at_set HA5_67.out 0 _) 1 _)
         have HA6_68 := hid ((HA6_67.out.far (j := 0) (Ne.symm HNE.out) (.int .i32 X)).far (j := 1) (Ne.symm HNE.out) (.int .i32 Y))
         have HR_68 := hid ((HR_67.out.other HG5.out HO5.out 0 (.int .i32 X)).other HG5.out HO5.out 1 (.int .i32 Y))
         refine hKK.out _ _ HR_68.out.pl (fun hHeld => ?_)
         clear hKK K k0 k1 kf
         (try simp only [Act.put, pu1, pu2, pu3])
         generalize World.setCell (World.setCell u67 _ _) _ _ = u68 at HR_68 HA5_68 HA6_68 hHeld ⊢
         refine wpAnyH_ready (rs := [13]) (by kernel_rfl) (by simp) ?_
         refine AllReadyH.cons (i := 13) rfl (fun K hKK => ?_) AllReadyH.nil
         obtain ⟨k0, k1⟩ := HA6_68.out.two
         have kf := HA6_68.out.frozen
         go_simp
         have HA6_69 : Hid (At ((u68.setCell ⟨B6, 0, none⟩ (.int .i32 U)).setCell ⟨B6, 1, none⟩ (.int .i32 V')) B6 #[.int .i32 U, .int .i32 V'] 27) := hid (at_set (at_set HA6_68.out 0 _) 1 _)
         have HA5_69 := hid ((HA5_68.out.far (j := 0) HNE.out (.int .i32 U)).far (j := 1) HNE.out (.int .i32 V'))
         have HR_69 := hid ((HR_68.out.other HG6.out HO6.out 0 (.int .i32 U)).other HG6.out HO6.out 1 (.int .i32 V'))
         refine hKK.out _ _ HR_69.out.pl (fun hHeld => ?_)
         clear hKK K k0 k1 kf
         (try simp only [Act.put, pu1, pu2, pu3])
         generalize World.setCell (World.setCell u68 _ _) _ _ = u69 at HR_69 HA5_69 HA6_69 hHeld ⊢
         refine wpAnyH_ready (rs := [14]) (by kernel_rfl) (by simp) ?_
         refine AllReadyH.cons (i := 14) rfl (fun K hKK => ?_) AllReadyH.nil
         go_simp
         have HR_70 := HR_69
         have HA6_70 := HA6_69
         have HA5_70 := HA5_69
         refine hKK.out _ _ HR_70.out.pl (fun hHeld => ?_)
         clear hKK K
         (try simp only [Act.put, pu1, pu2, pu3])
         obtain ⟨u70, hu70⟩ : ∃ z, z = u69 := ⟨_, rfl⟩
         rw [← hu70] at HR_70 HA5_70 HA6_70 hHeld ⊢
         clear hu70
         refine wpAnyH_done (by kernel_rfl) ?_ _
         refine NoPanic.normal ?_
         go_wp2_with fail
         go_meet
         case rel => exact ⟨rfl, rfl, B5, B6, rfl, rfl, rfl, HR_70.out, HA5_70.out, HA6_70.out, HO5.out, HO6.out⟩
        case rest => as_aux_lemma =>
         obtain ⟨ev3, rfl, B5, B6, rfl, rfl, rfl, hR, hA5, hA6, hO5, hO6⟩ := hcut
         obtain rfl := ev3.symm
         have HR16 := hid hR
         have HA5 := hid hA5
         have HA6 := hid hA6
         have n5 := at_ne HR16.out.pl HA5.out (by decide)
         have n6 := at_ne HR16.out.pl HA6.out (by decide)
         clear hR hA5 hA6 hO5 hO6 HR15 HMv
         obtain ⟨k0, k1⟩ := HA5.out.two
         obtain ⟨p0, p1, p2, p3, p4, p5, p6, p7, p8, p9⟩ := at_pl HR16.out.pl; (try dsimp only at p0 p1 p2 p3 p4 p5 p6 p7 p8 p9); have pf := HR16.out.pl.frozen
         go_upto_region 33 with fail
         have HR17 := hid ((HR16.out.setp (j := 0) (p' := { P7 with vx := A, vy := B, ax := X }) (u := .int .i32 X) rfl).setp (j := 1) (p' := { P7 with vx := A, vy := B, ax := X, ay := Y }) (u := .int .i32 Y) rfl)
         have HA7 := hid ((HA6.out.far (j := 0) (Ne.symm n6) (.int .i32 X)).far (j := 1) (Ne.symm n6) (.int .i32 Y))
         generalize World.setCell (World.setCell _ _ _) _ _ = w17 at HR17 HA7 ⊢
         clear p0 p1 p2 p3 p4 p5 p6 p7 p8 p9 pf
         clear k0 k1 HR16 HA5 HA6 n5
         obtain ⟨k0, k1⟩ := HA7.out.two
         obtain ⟨p0, p1, p2, p3, p4, p5, p6, p7, p8, p9⟩ := at_pl HR17.out.pl; (try dsimp only at p0 p1 p2 p3 p4 p5 p6 p7 p8 p9); have pf := HR17.out.pl.frozen
         go_upto_region 34 with fail
         have HR18 := hid ((HR17.out.setp (j := 2) (p' := { P7 with vx := U, vy := B, ax := X, ay := Y }) (u := .int .i32 U) rfl).setp (j := 3) (p' := { P7 with vx := U, vy := V', ax := X, ay := Y }) (u := .int .i32 V') rfl)
         generalize World.setCell (World.setCell _ _ _) _ _ = w18 at HR18 ⊢
         clear p0 p1 p2 p3 p4 p5 p6 p7 p8 p9 pf
         clear k0 k1 HR17 HA7 n6
         have HM9 : Hid (Mp (moveP s.fr (t + 1) (P7, l7)).1) := hid (Mp.move (r := (P7, l7)) HM7.out s.fr (t + 1))
         have HL9 : Hid (pageI s.fr (moveP s.fr (t + 1) (P7, l7)).2) := hid (by
          rw [HV.out]
          dsimp only
          split
          · exact HL7.out
          · exact tel_inv HL7.out _ _ _)
         have HTold : Hid (∀ W, Evs W v2 l7 → Calls Tryz.prog 19 #[v2, .int .i64 s.fr, .int .i64 ((t : Int) + 1), .int .i64 3, .int .i64 8192, .int .i64 3, .int .i64 0, .int .i32 X] W fun r w' => ∃ v', r = .returned v' ∧ Evs w' v' (tel s.fr l7 ((t : Int) + 1) 3 X) ∧ Below W.heap.size W w' ∧ Ev.Frv W w' v2 v') := hid (fun W hv => rtold_c 3 (by decide) (by decide) v2 l7 s.fr ((t : Int) + 1) X W hv HL7.out.2.2.1 ⟨by omega, by omega⟩ hXb.out)
         obtain ⟨p0, p1, p2, p3, p4, p5, p6, p7, p8, p9⟩ := at_pl HR18.out.pl; (try dsimp only at p0 p1 p2 p3 p4 p5 p6 p7 p8 p9); have pf := HR18.out.pl.frozen
         go_upto_if 180 with fail
         go_cut [1, 11] (fun s1 s11 wx => ∃ v', s1 = v' ∧ s11 = .int .i64 s.fr ∧ Rm w wx s (moveP s.fr (t + 1) (P7, l7)).1 v v' (moveP s.fr (t + 1) (P7, l7)).2)
         case first => as_aux_lemma =>
          by_cases hw : W' = 0
          · have HE := hid (show moveP s.fr (t + 1) (P7, l7) = ({ P7 with ax := X, ay := Y, vx := U, vy := V' }, l7) by rw [HV.out, if_pos hw])
            have hwb : ¬ (0 < W') := by omega
            clear hw
            go_wp2_with fail
            go_meet
            case rel => rw [HE.out]; exact ⟨v2, rfl, rfl, HR18.out⟩
          · have HE := hid (show moveP s.fr (t + 1) (P7, l7) = ({ P7 with ax := X, ay := Y, vx := U, vy := V' }, tel s.fr l7 (t + 1) 3 X) by rw [HV.out, if_neg hw])
            have hwb : 0 < W' := by have := hWb.out; omega
            clear hw
            go_wp2_with (go_at_call 19; ((with_reducible refine (HTold.out _ HR18.out.ev).mono ?_); rintro e w19 ⟨v', rfl, hv, g19, hf⟩; have HR19 := hid (HR18.out.told hv g19 hf); clear hv g19 hf))
            go_meet
            case rel => rw [HE.out]; exact ⟨v', rfl, rfl, HR19.out⟩
         case rest => as_aux_lemma =>
          obtain ⟨v3, ev3, rfl, hcut⟩ := hcut
          obtain rfl := ev3.symm
          have HR20 := hid hcut
          clear p0 p1 p2 p3 p4 p5 p6 p7 p8 p9 pf
          clear hcut HR18 HTold HV hXb hWb HM7 HL7
          generalize moveP s.fr (t + 1) (P7, l7) = q9 at HR20 HM9 HL9 HU5
          obtain ⟨P9, l9⟩ := q9
          dsimp only at HR20 HM9 HL9
          have m1 := in32_of HM9.out.ax
          have m2 := in32_of HM9.out.ay
          obtain ⟨m3, m4⟩ : (0 ≤ P9.fa ∧ P9.fa ≤ 65535) ∧ (-4194304 ≤ P9.ax ∧ P9.ax ≤ 4194304) := ⟨HM9.out.fa, HM9.out.ax⟩
          have hwt := hid (IntWalk.i64_in ((t : Int) + 1) (by omega))
          go_wp2_with fail
          go_loopw [1, 18] (fun s1 i wr => ∃ (k : Nat) (S : St) (Pk : Pl) (vk : Value) (lk : List Ev), s1 = vk ∧ k ≤ 6 ∧ i = .int .i64 k ∧ Rm w wr S Pk v vk lk ∧ Fi t a s P9 l9 k S Pk lk) (fun _ i _ => 6 - (intOf i).toNat)
          case atStart => exact ⟨0, s, P9, v3, l9, rfl, by decide, rfl, HR20.out, .inl ⟨rfl, rfl, rfl, fun j hj => by omega⟩⟩
          case round => as_aux_lemma =>
           obtain ⟨k, S, Pk, vk, lk, evk, hk, rfl, hR, hF⟩ := hrel
           obtain rfl := evk.symm
           have HR21 := hid hR
           have HFi := hid hF
           clear hR hF HR20
           obtain ⟨bb, HBB⟩ : ∃ bb : Bool, Hid (bb = decide (k < 6 ∧ a / 16 % 2 = 1 ∧ Pk.co = 0)) := ⟨_, hid rfl⟩
           have hk0 : (0 : Int) ≤ (k : Int) := by omega
           have hk7 : (k : Int) ≤ 6 := by omega
           obtain ⟨p0, p1, p2, p3, p4, p5, p6, p7, p8, p9⟩ := at_pl HR21.out.pl; (try dsimp only at p0 p1 p2 p3 p4 p5 p6 p7 p8 p9); have pf := HR21.out.pl.frozen
           go_upto_region 37 with fail
           go_cut [1, 18, 201] (fun s1 s18 s201 wx => s1 = vk ∧ s18 = .int .i64 k ∧ s201 = .bool bb ∧ Rm w wx S Pk v vk lk)
           case first => as_aux_lemma =>
            by_cases hlt : k < 6
            · have hlt2 : (k : Int) < 6 := by omega
              have e2 : a / 16 % 2 = 0 ∨ a / 16 % 2 = 1 := by omega
              rcases e2 with e2 | e2
              · have HBx := hid (show bb = false by rw [HBB.out]; simp [e2])
                have hb : (a / 16 % 2 == 1) = false := by rw [e2]; rfl
                go_wp2_with fail
                go_meet
                case rel => rw [HBx.out]; exact ⟨rfl, rfl, rfl, HR21.out⟩
              · have hb : (a / 16 % 2 == 1) = true := by rw [e2]; rfl
                by_cases e3 : Pk.co = 0
                · have HBx := hid (show bb = true by rw [HBB.out]; simp [e2, e3, hlt])
                  have hb2 : (Pk.co == 0) = true := by simp [e3]
                  clear e3
                  go_wp2_with fail
                  go_meet
                  case rel => rw [HBx.out]; exact ⟨rfl, rfl, rfl, HR21.out⟩
                · have HBx := hid (show bb = false by rw [HBB.out]; simp [e2, e3])
                  have hb2 : (Pk.co == 0) = false := by simp [e3]
                  clear e3
                  go_wp2_with fail
                  go_meet
                  case rel => rw [HBx.out]; exact ⟨rfl, rfl, rfl, HR21.out⟩
            · have hk6 : k = 6 := by omega
              subst hk6
              have HBx := hid (show bb = false by rw [HBB.out]; simp)
              go_wp2_with fail
              go_meet
              case rel => rw [HBx.out]; exact ⟨rfl, rfl, rfl, HR21.out⟩
           obtain ⟨ev4, rfl, rfl, hcut⟩ := hcut
           obtain rfl := ev4.symm
           have HR22 := hid hcut
           clear p0 p1 p2 p3 p4 p5 p6 p7 p8 p9 pf
           clear hcut HR21
           cases bb
           · have HFin : Hid (upP t a (s, l) = (setP S t Pk, lk)) := hid (by
              rw [HU5.out]
              have hn : ¬ (k < 6 ∧ a / 16 % 2 = 1 ∧ Pk.co = 0) := of_decide_eq_false HBB.out.symm
              rcases HFi.out with ⟨rfl, rfl, rfl, hno⟩ | ⟨j, hj, _, hfr, c1, c2, rfl, rfl, rfl⟩
              · by_cases hc : a / 16 % 2 = 1 ∧ P9.co = 0
                · exact fire_none ht (fun j hj => hno j (by have : ¬ k < 6 := fun h => hn ⟨h, hc⟩; omega))
                · exact fire_cond ht hc
              · exact fire_yes ht hj hfr ⟨c1, c2⟩)
             go_upto_region 44 with (first
              | ((with_reducible show wpList _ _ _ _ _ _); refine wpList_load_at rfl 29 _ rfl (w.heap.size + 1 + 1) 0 rfl 29 _ (plC Pk) (0, 0) _ HR22.out.pl Tryz.underlying29 rfl (by kernel_rfl) (plC_slf2 _) ?_)
              | ((with_reducible show wpList _ _ _ _ _ _); refine wpList_store_at rfl 29 _ _ rfl w.heap.size (4 + t * 10) (plC Pk) rfl rfl 35 _ HR22.out.st (by kernel_rfl) (by show 4 + t * 10 + 10 ≤ 60; omega) rfl ?_))
             generalize hW : World.setRow _ _ _ = w23
             rw [show (plC Pk).length = 10 from rfl, stP_row S ht Pk] at hW
             have HR23 : Hid (Rm w w23 (setP S t Pk) Pk v vk lk) := hid (by
              rw [← hW]
              exact HR22.out.row (setP S t Pk))
             clear hW
             generalize setP S t Pk = SF at HR23 HFin
             (try simp only [Act.put])
             go_step
             refine wpList_load_at rfl 35 _ rfl w.heap.size 0 rfl 35 _ (stC SF) (0, 0) _ HR23.out.st Tryz.underlying35 rfl (by kernel_rfl) (stC_slf SF) ?_
             simp only [Act.put, pu1, pu2, pu3]
             go_step
             go_simp
             (rename_i hKK; refine hKK _ _ ?_)
             refine wpList_store_at rfl 35 _ _ rfl (w.heap.size + 1) 0 (stC SF) rfl rfl 35 _ HR23.out.res (by kernel_rfl) (by show 60 ≤ 60; decide) rfl ?_
             (try simp only [Act.put])
             go_step
             go_simp
             (rename_i hKK2; refine hKK2 _ _ ?_)
             refine wpList_nil ?_
             refine ‹∀ (a : Act) (w : World), Code.wp Tryz.prog Code.ret _ a w → _› _ _ ?_
             refine wp_ret ?_
             obtain ⟨h1, h2, h3, h4⟩ := HR23.out.answer
             refine bodyPost_ret (results_cell_tmp rfl _ _ (w.heap.size + 1) 35 (stC SF).toArray (0, 0) _ rfl h1 Tryz.underlying35 rfl (by kernel_rfl)) rfl ?_
             rw [HFin.out]
             exact ⟨_, rfl, h2, h3, h4⟩
           · obtain ⟨hlt, e2, e3⟩ : k < 6 ∧ a / 16 % 2 = 1 ∧ Pk.co = 0 := of_decide_eq_true HBB.out.symm
             obtain ⟨hS, hP, hl, hno⟩ : s = S ∧ P9 = Pk ∧ l9 = lk ∧ ∀ j, j < k → (shS s j).ow ≠ 0 := by
              rcases HFi.out with h | ⟨j, hj, _, hfr, c1, c2, h1, h2, h3⟩
              · exact h
              · rw [h2] at e3
                exact absurd (show (8 : Int) = 0 from e3) (by decide)
             subst hS
             subst hP
             subst hl
             have HNo := hid hno
             have HE3 := hid e3
             have hlt2 : (k : Int) < 6 := by omega
             have cb : wc.cell? ⟨w.heap.size, 24 + k * 6 + 4, none⟩ = some (.int .i64 (shS s k).ow) := (st_at HR22.out.st _).trans (stB_ow s hlt)
             clear hno e3 HFi HBB
             by_cases hx : (shS s k).ow = 0
             case neg =>
              have hxb : ((shS s k).ow == 0) = false := by simp [hx]
              go_wp2_with fail
              go_roundw
              case rel => exact ⟨k + 1, s, P9, vk, l9, rfl, by omega, by go_num, HR22.out, .inl ⟨rfl, rfl, rfl, fun j hj => by rcases Nat.lt_or_eq_of_le (Nat.le_of_lt_succ hj) with h | h; exact HNo.out j h; rw [h]; exact hx⟩⟩
              case measure => simp [intOf]; omega
             case pos =>
              have hxb : ((shS s k).ow == 0) = true := by simp [hx]
              have HFr := hid (free_some hlt hx HNo.out)
              have HTold : Hid (∀ W, Evs W vk l9 → Calls Tryz.prog 19 #[vk, .int .i64 s.fr, .int .i64 ((t : Int) + 1), .int .i64 1, .int .i64 16384, .int .i64 5, .int .i64 0, .int .i32 P9.ax] W fun r w' => ∃ v', r = .returned v' ∧ Evs w' v' (tel s.fr l9 ((t : Int) + 1) 1 P9.ax) ∧ Below W.heap.size W w' ∧ Ev.Frv W w' vk v') := hid (fun W hv => rtold_c 1 (by decide) (by decide) vk l9 s.fr ((t : Int) + 1) P9.ax W hv HL9.out.2.2.1 ⟨by omega, by omega⟩ m4)
              have HSh : Hid (shotP ((t : Int) + 1) P9 = ⟨satI (P9.ax + wayX P9.fa 262144), satI (P9.ay + wayY P9.fa 262144), wayX P9.fa 196608, wayY P9.fa 196608, (t : Int) + 1, 40⟩) := hid rfl
              have HW1 := fun W => rway_c P9.fa 262144 m3 (by decide) W
              have HW2 := fun W => rway_c P9.fa 196608 m3 (by decide) W
              have HPl := fun W => Sh.rplus_c P9.ax P9.ay (wayX P9.fa 262144) (wayY P9.fa 262144) m1 m2 (sat_bd _) (sat_bd _) W
              generalize wayX P9.fa 262144 = X1 at HW1 HPl HSh
              generalize wayY P9.fa 262144 = Y1 at HW1 HPl HSh
              generalize wayX P9.fa 196608 = X2 at HW2 HSh
              generalize wayY P9.fa 196608 = Y2 at HW2 HSh
              generalize satI (P9.ax + X1) = X3 at HPl HSh
              generalize satI (P9.ay + Y1) = Y3 at HPl HSh
              clear hx
              go_upto_region 40 with fail
              clear cb
              have hK := hid (fun W (g : At W (w.heap.size + 1 + 1) (plA P9) 29) => at_pl g)
              refine wp_region_noPanic ?_
              refine wp_region_held_drew (S := (fun W => At W (w.heap.size + 1 + 1) (plA P9) 29)) (by kernel_rfl) HR22.out.pl.drew (fun hHeld => ?_)
              have HRz := hid (HR22.out.below (Ev.bd1 (Ev.br _)))
              generalize World.drew _ = wz at HRz hHeld ⊢
              (refine tk 0 210 ?_ rfl rfl (by kernel_rfl) (by rfl) ?_ (by assumption) ?_)
              rotate_left
              · (intro W hSW; go_simp; (try with_reducible rfl))
              simp only [Act.put, pu1, pu2, pu3]
              (refine tk 1 211 ?_ rfl rfl (by kernel_rfl) (by rfl) ?_ (by assumption) ?_)
              rotate_left
              · (intro W hSW; go_simp; (try with_reducible rfl))
              simp only [Act.put, pu1, pu2, pu3]
              (refine tk 2 212 ?_ rfl rfl (by kernel_rfl) (by rfl) ?_ (by assumption) ?_)
              rotate_left
              · (intro W hSW; have hSW2 := hK.out W hSW; go_simp; (try with_reducible rfl))
              simp only [Act.put, pu1, pu2, pu3]
              (refine tk 3 213 ?_ rfl rfl (by kernel_rfl) (by rfl) ?_ (by assumption) ?_)
              rotate_left
              · (intro W hSW; go_simp; (try with_reducible rfl))
              simp only [Act.put, pu1, pu2, pu3]
              (refine tk 4 214 ?_ rfl rfl (by kernel_rfl) (by rfl) ?_ (by assumption) ?_)
              rotate_left
              · (intro W hSW; have hSW2 := hK.out W hSW; go_simp; (try with_reducible rfl))
              simp only [Act.put, pu1, pu2, pu3]
              (refine tk 7 217 ?_ rfl rfl (by kernel_rfl) (by rfl) ?_ (by assumption) ?_)
              rotate_left
              · (intro W hSW; go_simp; (try with_reducible rfl))
              simp only [Act.put, pu1, pu2, pu3]
              (refine tk 8 218 ?_ rfl rfl (by kernel_rfl) (by rfl) ?_ (by assumption) ?_)
              rotate_left
              · (intro W hSW; have hSW2 := hK.out W hSW; go_simp; (try with_reducible rfl))
              simp only [Act.put, pu1, pu2, pu3]
              (refine tk 10 220 ?_ rfl rfl (by kernel_rfl) (by rfl) ?_ (by assumption) ?_)
              rotate_left
              · (intro W hSW; go_simp; (try with_reducible rfl))
              simp only [Act.put, pu1, pu2, pu3]
              (refine tk 11 221 ?_ rfl rfl (by kernel_rfl) (by rfl) ?_ (by assumption) ?_)
              rotate_left
              · (intro W hSW; have hw1 := hwt.out; go_simp; (try with_reducible rfl))
              simp only [Act.put, pu1, pu2, pu3]
              (refine tk 13 223 ?_ rfl rfl (by kernel_rfl) (by rfl) ?_ (by assumption) ?_)
              rotate_left
              · (intro W hSW; go_simp; (try with_reducible rfl))
              simp only [Act.put, pu1, pu2, pu3]
              refine wpAnyH_ready (rs := [5]) (by kernel_rfl) (by simp) ?_
              refine AllReadyH.cons (i := 5) rfl (fun K hKK => ?_) AllReadyH.nil
              go_simp
              ((with_reducible refine (HW1 _).mono ?_); rintro e wa ⟨rfl, ga⟩; have HRa := hid (HRz.out.below ga); clear ga)
              (try dsimp only)
              refine hKK.out _ _ HRa.out.pl (fun hHeld => ?_)
              clear hKK K
              (try simp only [Act.put, pu1, pu2, pu3])
              refine wpAnyH_ready (rs := [6]) (by kernel_rfl) (by simp) ?_
              refine AllReadyH.cons (i := 6) rfl (fun K hKK => ?_) AllReadyH.nil
              go_simp
              ((with_reducible refine (HPl _).mono ?_); rintro e wb ⟨rfl, gb⟩; have HRb := hid (HRa.out.below gb); clear gb)
              (try dsimp only)
              refine hKK.out _ _ HRb.out.pl (fun hHeld => ?_)
              clear hKK K
              (try simp only [Act.put, pu1, pu2, pu3])
              refine wpAnyH_ready (rs := [9]) (by kernel_rfl) (by simp) ?_
              refine AllReadyH.cons (i := 9) rfl (fun K hKK => ?_) AllReadyH.nil
              go_simp
              ((with_reducible refine (HW2 _).mono ?_); rintro e wd ⟨rfl, gd⟩; have HRd := hid (HRb.out.below gd); clear gd)
              (try dsimp only)
              refine hKK.out _ _ HRd.out.pl (fun hHeld => ?_)
              clear hKK K
              (try simp only [Act.put, pu1, pu2, pu3])
              (refine tk 12 222 ?_ rfl rfl (by kernel_rfl) (by rfl) ?_ (by assumption) ?_)
              rotate_left
              · (intro W hSW; go_simp; (try with_reducible rfl))
              simp only [Act.put, pu1, pu2, pu3]
              (refine tk 14 224 ?_ rfl rfl (by kernel_rfl) (by rfl) ?_ (by assumption) ?_)
              rotate_left
              · (intro W hSW; go_simp; (try with_reducible rfl))
              simp only [Act.put, pu1, pu2, pu3]
              refine wpAnyH_ready (rs := [15]) (by kernel_rfl) (by simp) ?_
              refine AllReadyH.cons (i := 15) rfl (fun K hKK => ?_) AllReadyH.nil
              rw [if_pos (by rfl)]
              refine wp_store_at 32 _ _ rfl w.heap.size (24 + k * 6) (buC ⟨X3, Y3, X2, Y2, (t : Int) + 1, 40⟩) rfl rfl 35 _ HRd.out.st (by kernel_rfl) (by show 24 + k * 6 + 6 ≤ 60; omega) rfl ?_
              change K (Act.put _ none undef) (wd.setRow w.heap.size (List.take (24 + k * 6) (stC s) ++ buC ⟨X3, Y3, X2, Y2, (t : Int) + 1, 40⟩ ++ List.drop (24 + k * 6 + 6) (stC s)).toArray)
              rw [stB_row2 s hlt, ← HSh.out]
              have HR25 := hid (HRd.out.row (setS s k (shotP ((t : Int) + 1) P9)))
              refine hKK.out _ _ HR25.out.pl (fun hHeld => ?_)
              clear hKK K
              (try simp only [Act.put])
              generalize World.setRow wd _ _ = w25 at HR25 hHeld ⊢
              refine wpAnyH_done (by kernel_rfl) ?_ _
              refine NoPanic.normal ?_
              clear hK
              have HR26 := hid HR25.out
              obtain ⟨p0, p1, p2, p3, p4, p5, p6, p7, p8, p9⟩ := at_pl HR26.out.pl; (try dsimp only at p0 p1 p2 p3 p4 p5 p6 p7 p8 p9); have pf := HR26.out.pl.frozen
              go_upto_region 42 with fail
              have HR27 := hid (HR26.out.setp (j := 6) (p' := { P9 with co := 8 }) (u := .int .i64 8) rfl)
              generalize World.setCell w25 _ _ = w27 at HR27 ⊢
              clear p0 p1 p2 p3 p4 p5 p6 p7 p8 p9 pf
              clear HR22 HR25 HR26
              obtain ⟨p0, p1, p2, p3, p4, p5, p6, p7, p8, p9⟩ := at_pl HR27.out.pl; (try dsimp only at p0 p1 p2 p3 p4 p5 p6 p7 p8 p9); have pf := HR27.out.pl.frozen
              go_wp2_with (go_at_call 19; ((with_reducible refine (HTold.out _ HR27.out.ev).mono ?_); rintro e w28 ⟨v', rfl, hv, g28, hf⟩; have HR28 := hid (HR27.out.told hv g28 hf); clear hv g28 hf))
              go_roundw
              case rel => exact ⟨k + 1, setS s k (shotP ((t : Int) + 1) P9), { P9 with co := 8 }, v', tel s.fr l9 ((t : Int) + 1) 1 P9.ax, rfl, by omega, by go_num, HR28.out, .inr ⟨k, hlt, by omega, HFr.out, e2, HE3.out, rfl, rfl, rfl⟩⟩
              case measure => simp [intOf]; omega


end Go.Proofs.YtigjflacinlafaaGreatDoor.Gm
