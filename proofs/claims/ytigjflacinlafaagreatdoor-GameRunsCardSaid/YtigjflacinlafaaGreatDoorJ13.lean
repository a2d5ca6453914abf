/- What the document tells in a step is a page's (pure); its Player, whatever (layer 12, game). -/
/- The document's Step (layer 12, game). -/
import Derived.Test.YtigjflacinlafaaGreatDoorGmRu
import Derived.Test.YtigjflacinlafaaGreatDoorGmRs
import Derived.Deep.DeepCutAuto
import Derived.Deep.RegionWith
namespace Go.Proofs.YtigjflacinlafaaGreatDoor.Gm
open Go.RowKit Go.Proofs.YtigjflacinlafaaGreatDoor.Fx Go.Proofs.YtigjflacinlafaaGreatDoor.Tg Go.Proofs.YtigjflacinlafaaGreatDoor.Dc
open Go.Proofs.YtigjflacinlafaaGreatDoor.Ev (Ev Ky addR pageI At ecs Pg Evs)
open Go.Proofs.YtigjflacinlafaaGreatDoor.Sh (In32 vec box insideB touchB slI mvP mvV wallI)
set_option linter.unusedVariables false

theorem rest_page {q : Q} (h : pageI q.1.fr q.2) (t : Nat) : pageI q.1.fr (restP t q).2 := by
 unfold restP
 split
 · exact tel_inv h _ _ _
 · exact h
theorem thrust_page {fr e a : Int} {r : R} (h : pageI fr r.2) : pageI fr (thrustP fr e a r).2 := by
 unfold thrustP
 split
 · dsimp only
   split
   · exact tel_inv h _ _ _
   · exact h
 · exact h
theorem dash_page {fr e a : Int} {r : R} (h : pageI fr r.2) : pageI fr (dashP fr e a r).2 := by
 unfold dashP
 split
 · exact tel_inv h _ _ _
 · exact h
theorem drive_page {fr e a : Int} {r : R} (h : pageI fr r.2) : pageI fr (driveP fr e a r).2 := dash_page (thrust_page (r := (brakeP a r.1, r.2)) h)
theorem move_page {fr e : Int} {r : R} (h : pageI fr r.2) : pageI fr (moveP fr e r).2 := by
 unfold moveP
 dsimp only
 split
 · exact h
 · exact tel_inv h _ _ _
theorem fire_page {q : Q} (h : pageI q.1.fr q.2) (t : Nat) (a : Int) : pageI q.1.fr (fireP t a q).2 := by
 unfold fireP fireQ
 split
 · split
   · exact tel_inv h _ _ _
   · exact h
 · exact h
theorem play_page {q : Q} (h : pageI q.1.fr q.2) (t : Nat) (a : Int) : pageI q.1.fr (playP t a q).2 := by
 unfold playP
 split
 · exact rest_page h t
 · unfold upP
   dsimp only
   have h1 : pageI q.1.fr (moveP q.1.fr (t + 1) (driveP q.1.fr (t + 1) a (coolP a (plS q.1 t), q.2))).2 := move_page (drive_page h)
   generalize moveP q.1.fr (t + 1) (driveP q.1.fr (t + 1) a (coolP a (plS q.1 t), q.2)) = r at h1 ⊢
   have h2 := fire_page (q := (setP q.1 t r.1, r.2)) (by dsimp only; rw [(setP_keeps q.1 t r.1).1]; exact h1) t a
   dsimp only at h2
   rw [(setP_keeps q.1 t r.1).1] at h2
   exact h2
theorem clash_page {q : Q} (h : pageI q.1.fr q.2) : pageI q.1.fr (clashP q).2 := by
 unfold clashP
 split
 · exact tel_inv h _ _ _
 · exact h
theorem hit_page {q : Q} (h : pageI q.1.fr q.2) (o : Nat) : pageI q.1.fr (hitP o q).2 := by
 unfold hitP
 split
 · exact tel_inv (tel_inv h _ _ _) _ _ _
 · exact tel_inv h _ _ _
theorem fly_page {q : Q} (h : pageI q.1.fr q.2) {k : Nat} (hk : k < 6) : pageI q.1.fr (flyP k q).2 := by
 unfold flyP
 split
 · exact h
 · split
   · exact h
   · split
     · have := hit_page (q := (setS q.1 k zeroB, q.2)) (by dsimp only; rw [(setS_keeps hk zeroB).1]; exact h) (othN (shS q.1 k))
       dsimp only at this
       rw [(setS_keeps hk zeroB).1] at this
       exact this
     · exact h
theorem flies_page {q : Q} (h : pageI q.1.fr q.2) : ∀ k, k ≤ 6 → pageI q.1.fr (fliesP k q).2
 | 0, _ => h
 | k + 1, hk => by
  have ih := flies_page h k (by omega)
  have hf := (flies_keeps q k (by omega)).1
  have := fly_page (q := fliesP k q) (by rw [hf]; exact ih) (k := k) (by omega)
  rw [hf] at this
  exact this
theorem count_page {q : Q} (h : pageI q.1.fr q.2) : pageI q.1.fr (countP q).2 := by
 unfold countP
 split
 · exact tel_inv h _ _ _
 · exact h

/-- the document's Player, up or down. -/
theorem rplay_c (t : Nat) (ht : t < 2) (a : Int) (ha : 0 ≤ a ∧ a ≤ 63) (s : St) (v : Value) (l : List Ev) (w : World) (h : Evs w v l) (hi : pageI s.fr l) (hfr : 0 ≤ s.fr) (hdi : 0 ≤ s.di ∧ s.di < 4294967296) (hp : Mp (plS s t)) :
 Calls Tryz.prog 17 #[.agg (stC s).toArray, v, .int .i64 t, .int .i64 a] w fun e w' => ∃ v', e = .returned (.tuple #[.agg (stC (playP t a (s, l)).1).toArray, v']) ∧ Evs w' v' (playP t a (s, l)).2 ∧ Below w.heap.size w w' ∧ Ev.Frv w w' v v' := by
 have hb := hp.dn
 by_cases hd : (plS s t).dn = 0
 · have e : playP t a (s, l) = upP t a (s, l) := if_neg (by dsimp only; omega)
   rw [e]
   exact rup_c t ht a ha s v l w h hi hfr hp hd
 · have e : playP t a (s, l) = restP t (s, l) := if_pos (by dsimp only; omega)
   rw [e]
   exact rdown_c t ht a s v l w h hi.2.2.1 hdi ⟨by omega, hb.2⟩

/-- a step of the document's on its way: the state, both inputs, the answer's own, the events till now. -/
structure Rz (w W : World) (s : St) (a b : Int) (v : Value) (l : List Ev) : Prop where
 st : At W w.heap.size (stC s).toArray 35
 inp : At W (w.heap.size + 1) #[.int .u8 a, .int .u8 b] 41
 res : At W (w.heap.size + 1 + 1) (stC zeroS).toArray 35
 ev : Evs W v l
 off : Off w.heap.size (w.heap.size + 1 + 1) v l
 old : Below w.heap.size w W
 low : ∀ k, v.ownBlock = some k → w.heap.size ≤ k
section
variable {w W W' : World} {s : St} {a b : Int} {v v' : Value} {l l' : List Ev}
theorem Rz.below (h : Rz w W s a b v l) (g : Below W.heap.size W W') : Rz w W' s a b v l := ⟨h.st.below g, h.inp.below g, h.res.below g, h.ev.below g, h.off, Ev.bt h.old g, h.low⟩
theorem Rz.row (h : Rz w W s a b v l) (s' : St) : Rz w (W.setRow w.heap.size (stC s').toArray) s' a b v l :=
 ⟨at_row h.st _, at_row_far h.inp (by omega) _, at_row_far h.res (by omega) _, evs_setr h.ev (off_ne h.off ⟨by omega, by omega⟩) _, h.off, below_row h.old (Nat.le_refl _) _, h.low⟩
theorem Rz.sets (h : Rz w W s a b v l) {j : Nat} {u : Value} {s' : St} (e : (stC s').toArray = (stC s).toArray.setIfInBounds j u) : Rz w (W.setCell ⟨w.heap.size, j, none⟩ u) s' a b v l :=
 ⟨by rw [e]; exact at_set h.st j u, h.inp.far (by omega) u, h.res.far (by omega) u, evs_setc h.ev (off_ne h.off ⟨by omega, by omega⟩) j u, h.off, h.old.setCell (p := ⟨w.heap.size, j, none⟩) (Nat.le_refl _) u, h.low⟩
theorem Rz.told (h : Rz w W s a b v l) (hv : Evs W' v' l') (g : Below W.heap.size W W') (hf : Ev.Frv W W' v v') : Rz w W' s a b v' l' := by
 have h1 := h.below g
 have hlow : ∀ k, v'.ownBlock = some k → w.heap.size ≤ k := by
  rcases hf with rfl | hf
  · exact h.low
  · exact fun k hk => Nat.le_trans h.old.size (hf k hk).1
 refine ⟨h1.st, h1.inp, h1.res, hv, ?_, h1.old, hlow⟩
 rcases hf with rfl | hf
 · rcases h.off with e | e
   · left
     obtain ⟨a, L, cap, e1, h1, _⟩ := hv
     obtain ⟨a2, L2, cap2, e2, h2, _⟩ := h.ev
     rw [e1] at e2
     cases e2
     rw [e] at h2
     exact List.length_eq_zero_iff.1 (by rw [h1, ← h2]; rfl)
   · exact .inr e
 · exact .inr fun k hk => .inr (by have := (hf k hk).1; have := h.res.lt; omega)
/-- a block of another place. -/
theorem Rz.other (h : Rz w W s a b v l) {B : Nat} (hB : w.heap.size + 1 + 1 < B) (ho : l = [] ∨ ∀ i, v.ownBlock = some i → i ≠ B) (j : Nat) (u : Value) : Rz w (W.setCell ⟨B, j, none⟩ u) s a b v l :=
 ⟨h.st.far (by omega) u, h.inp.far (by omega) u, h.res.far (by omega) u, evs_setc h.ev ho j u, h.off, h.old.setCell (p := ⟨B, j, none⟩) (by show w.heap.size ≤ B; omega) u, h.low⟩
theorem Rz.answer (h : Rz w W s a b v l) : At (W.setRow (w.heap.size + 1 + 1) (stC s).toArray) (w.heap.size + 1 + 1) (stC s).toArray 35 ∧ Evs (W.setRow (w.heap.size + 1 + 1) (stC s).toArray) v l ∧ Below w.heap.size w (W.setRow (w.heap.size + 1 + 1) (stC s).toArray) :=
 ⟨at_row h.res _, evs_setr h.ev (off_ne h.off ⟨by omega, by omega⟩) _, below_row h.old (by omega) _⟩
theorem rz_new (w : World) (s : St) (a b : Int) (v : Value) (h : ∀ W, Evs W v []) (h0 : ∀ k, v.ownBlock = some k → w.heap.size ≤ k) : Rz w (((w.alloc (.cells (stC s).toArray 35)).alloc (.cells #[.int .u8 a, .int .u8 b] 41)).alloc (.cells (stC zeroS).toArray 35)) s a b v [] := by
 have g : Below w.heap.size w (((w.alloc (.cells (stC s).toArray 35)).alloc (.cells #[.int .u8 a, .int .u8 b] 41)).alloc (.cells (stC zeroS).toArray 35)) := Ev.bal (Ev.bal (Ev.bal (Ev.br w) _) _) _
 exact ⟨((At.new w _ _).more _).more _, (At.newAt _ _ _ (by simp)).more _, At.newAt _ _ _ (by simp), h _, .inl rfl, g, h0⟩
end

end Go.Proofs.YtigjflacinlafaaGreatDoor.Gm

namespace Go.Proofs.YtigjflacinlafaaGreatDoor.Gm
open Go.RowKit Go.Proofs.YtigjflacinlafaaGreatDoor.Fx Go.Proofs.YtigjflacinlafaaGreatDoor.Tg Go.Proofs.YtigjflacinlafaaGreatDoor.Dc
open Go.Proofs.YtigjflacinlafaaGreatDoor.Ev (Ev Ky addR pageI At ecs Pg Evs)
open Go.Proofs.YtigjflacinlafaaGreatDoor.Sh (In32 vec box insideB touchB slI mvP mvV wallI)
set_option linter.unusedVariables false

theorem Rz.othr {w W : World} {s : St} {a b : Int} {v : Value} {l : List Ev} (h : Rz w W s a b v l) {B : Nat} (hB : w.heap.size + 1 + 1 < B) (ho : l = [] ∨ ∀ i, v.ownBlock = some i → i ≠ B) (cs : Array Value) : Rz w (W.setRow B cs) s a b v l :=
 ⟨at_row_far h.st (by omega) _, at_row_far h.inp (by omega) _, at_row_far h.res (by omega) _, evs_setr h.ev ho _, h.off, below_row h.old (by omega) _, h.low⟩
theorem wp_load_one {P : Program} {o : Oper} {a : Act} {w : World} {K : Act → World → Prop} {Q : Exit → Act → World → Prop} (ty : TypeId) (x : Operand) (ho : o.op = .load ty x) (g k : Nat) (hx : a.eval x = .pointer (some ⟨g, k, none⟩))
 (d : TypeDesc) (hu : P.underlying ty = some d) (hd : (match d with | .struct _ | .array _ _ => false | _ => true) = true) (v : Value) (hc : w.cell? ⟨g, k, none⟩ = some v) (h : K (a.put o.dst v) w) : o.wp P a w K Q := by
 have hagg : (isAgg ty).run P w = .ok false w := by
  unfold isAgg
  rw [Sem.run_bind, run_underlying hu w]
  cases d <;> simp_all
 have hl : (loadVar ty ⟨g, k, none⟩).run P w = .ok v w := by
  unfold loadVar
  simp [hagg, hc]
 unfold Oper.wp execOp
 simp only [ho, hx, Instr.loadAt, Instr.sureAddr, Sem.run_bind, Sem.run_pure, Result.andThen_ok, hl]
 exact h
set_option maxRecDepth 100000 in
theorem run_pls (w : World) : (Instr.build 30 #[(0, plV fresh0), (1, plV fresh1)]).run Tryz.prog w = .ok (.agg (plC fresh0 ++ plC fresh1).toArray) w := by
 kernel_rfl
set_option maxRecDepth 100000 in
theorem run_newS (f d r : Int) (w : World) : (Instr.build 35 #[(0, .int .i64 f), (1, .int .u32 d), (2, .int .i64 r), (3, .int .i64 600), (4, .agg (plC fresh0 ++ plC fresh1).toArray)]).run Tryz.prog w = .ok (.agg (stC ⟨f, d, r, 600, fresh0, fresh1, zeroB, zeroB, zeroB, zeroB, zeroB, zeroB⟩).toArray) w := by
 kernel_rfl
theorem exec_pls {o : Oper} {ev : Operand → Value} (w : World) (x y : Operand) (ho : o.op = .build 30 #[(0, x), (1, y)]) (hx : ev x = plV fresh0) (hy : ev y = plV fresh1) :
 (execOp ev o).run Tryz.prog w = .ok (.value (.agg (plC fresh0 ++ plC fresh1).toArray)) w := by
 have h := run_pls w
 unfold execOp
 simp only [ho, List.map_toArray, List.map_cons, List.map_nil, hx, hy, Sem.run_bind, Sem.run_pure, Result.andThen_ok, h]
theorem exec_newS {o : Oper} {ev : Operand → Value} (f d r : Int) (w : World) (x y z c u : Operand) (ho : o.op = .build 35 #[(0, x), (1, y), (2, z), (3, c), (4, u)]) (hx : ev x = .int .i64 f) (hy : ev y = .int .u32 d) (hz : ev z = .int .i64 r) (hc : ev c = .int .i64 600) (hu : ev u = .agg (plC fresh0 ++ plC fresh1).toArray) :
 (execOp ev o).run Tryz.prog w = .ok (.value (.agg (stC ⟨f, d, r, 600, fresh0, fresh1, zeroB, zeroB, zeroB, zeroB, zeroB, zeroB⟩).toArray)) w := by
 have h := run_newS f d r w
 unfold execOp
 simp only [ho, List.map_toArray, List.map_cons, List.map_nil, hx, hy, hz, hc, hu, Sem.run_bind, Sem.run_pure, Result.andThen_ok, h]
theorem low_mt (w : World) : ∀ k, (Value.slice (some ⟨w.heap.size + 1 + 1 + 1, 0, none⟩) 0 0).ownBlock = some k → w.heap.size ≤ k := by
 intro k hk
 simp [Value.ownBlock] at hk
 omega
theorem evs_mt (W : World) (g : Nat) : Evs W (.slice (some ⟨g, 0, none⟩) 0 0) [] := ⟨_, 0, 0, rfl, rfl, Nat.le_refl _, by decide, fun h => absurd h (by decide)⟩

set_option maxRecDepth 100000 in
set_option maxHeartbeats 40000000 in
theorem rstep_c (s : St) (a b : Int) (w : World) (hm : Ms 2 s) (ha : 0 ≤ a ∧ a ≤ 63) (hb : 0 ≤ b ∧ b ≤ 63) (hfr : s.fr < 1073741824) :
 Calls Tryz.prog 9 #[.agg (stC s).toArray, .agg #[.int .u8 a, .int .u8 b]] w fun e w' => ∃ v', e = .returned (.tuple #[.agg (stC (stepP s a b).1).toArray, v']) ∧ Evs w' v' (stepP s a b).2 ∧ Below w.heap.size w w' ∧ ∀ k, v'.ownBlock = some k → w.heap.size ≤ k := by
 have HS : Hid (stepP s a b = lastP (countP (fliesP 6 (clashP (playP 1 b (playP 0 a (s, []))))))) := hid rfl
 have HM0 := hid hm
 have HRn := hid ((rz_new w s a b (.slice (some ⟨w.heap.size + 1 + 1 + 1, 0, none⟩) 0 0) (fun W => evs_mt W _) (low_mt w)).below (Ev.bal (Ev.br _) (.cells #[] 53)))
 clear hm
 generalize hC : stC s = cs at HRn
 go_enter Tryz.func9, Tryz.ntmps9
 go_upto_region 2 with fail
 generalize hw : World.alloc (World.alloc (World.alloc (World.alloc w _) _) _) _ = w0
 have HZ0 : Hid (Rz w w0 s a b (.slice (some ⟨w.heap.size + 1 + 1 + 1, 0, none⟩) 0 0) []) := hid (by rw [← hw, ← hC]; exact (rz_new w s a b (.slice (some ⟨w.heap.size + 1 + 1 + 1, 0, none⟩) 0 0) (fun W => evs_mt W _) (low_mt w)).below (Ev.bal (Ev.br _) (.cells #[] 53)))
 clear hw HRn
 subst hC
 generalize Value.slice (some ⟨w.heap.size + 1 + 1 + 1, 0, none⟩) 0 0 = v0 at HZ0 ⊢
 have HP1 : Hid (∀ W, Evs W v0 [] → Calls Tryz.prog 17 #[.agg (stC s).toArray, v0, .int .i64 0, .int .i64 a] W fun e w' => ∃ v', e = .returned (.tuple #[.agg (stC (playP 0 a (s, [])).1).toArray, v']) ∧ Evs w' v' (playP 0 a (s, [])).2 ∧ Below W.heap.size W w' ∧ Ev.Frv W w' v0 v') := hid (fun W g => rplay_c 0 (by decide) a ha s v0 [] W g (Ev.page_nil _) HM0.out.fr.1 HM0.out.di HM0.out.p0)
 have HM1 : Hid (Ms 2 (playP 0 a (s, [])).1) := hid (Ms.play (q := (s, [])) HM0.out (by decide) a)
 have HF1 : Hid ((playP 0 a (s, [])).1.fr = s.fr ∧ pageI s.fr (playP 0 a (s, [])).2) := hid ⟨(play_keeps 0 a (s, [])).1, play_page (q := (s, [])) (Ev.page_nil _) 0 a⟩
 generalize playP 0 a (s, []) = q1 at HP1 HM1 HF1 HS
 obtain ⟨s1, l1⟩ := q1
 dsimp only at HP1 HM1 HF1
 obtain ⟨ha0, ha1⟩ := ha
 obtain ⟨hb0, hb1⟩ := hb
 obtain ⟨i0, i1⟩ := HZ0.out.inp.two
 go_upto_region 3 with (first
  | ((with_reducible show wpList _ _ _ _ _ _); refine wpList_load_at rfl 35 _ rfl w.heap.size 0 rfl 35 _ (stC s) (0, 0) _ HZ0.out.st Tryz.underlying35 rfl (by kernel_rfl) (stC_slf s) ?_)
  | (go_at_call 17; ((with_reducible refine (HP1.out _ HZ0.out.ev).mono ?_); rintro e w1 ⟨v1, rfl, hv, g1, hf⟩; have HZ1 := hid (HZ0.out.told hv g1 hf); clear hv g1 hf))
  | ((with_reducible show wpList _ _ _ _ _ _); refine wpList_store_at rfl 35 _ _ rfl w.heap.size 0 (stC s1) rfl rfl 35 _ HZ1.out.st (by kernel_rfl) (by show 60 ≤ 60; decide) rfl ?_))
 generalize hW : World.setRow _ _ _ = w2
 have HZ2 : Hid (Rz w w2 s1 a b v1 l1) := hid (by rw [← hW]; exact HZ1.out.row s1)
 clear hW HZ0 HZ1 HP1 i0 i1
 have HP2 : Hid (∀ W, Evs W v1 l1 → Calls Tryz.prog 17 #[.agg (stC s1).toArray, v1, .int .i64 1, .int .i64 b] W fun e w' => ∃ v', e = .returned (.tuple #[.agg (stC (playP 1 b (s1, l1)).1).toArray, v']) ∧ Evs w' v' (playP 1 b (s1, l1)).2 ∧ Below W.heap.size W w' ∧ Ev.Frv W w' v1 v') := hid (fun W g => rplay_c 1 (by decide) b ⟨hb0, hb1⟩ s1 v1 l1 W g (by rw [HF1.out.1]; exact HF1.out.2) HM1.out.fr.1 HM1.out.di HM1.out.p1)
 have HM2 : Hid (Ms 2 (playP 1 b (s1, l1)).1) := hid (Ms.play (q := (s1, l1)) HM1.out (by decide) b)
 have HF2 : Hid ((playP 1 b (s1, l1)).1.fr = s.fr ∧ pageI s.fr (playP 1 b (s1, l1)).2) := hid ⟨(play_keeps 1 b (s1, l1)).1.trans HF1.out.1, by have := play_page (q := (s1, l1)) (by dsimp only; rw [HF1.out.1]; exact HF1.out.2) 1 b; dsimp only at this; rw [HF1.out.1] at this; exact this⟩
 generalize playP 1 b (s1, l1) = q2 at HP2 HM2 HF2 HS
 obtain ⟨s2, l2⟩ := q2
 dsimp only at HP2 HM2 HF2
 obtain ⟨i0, i1⟩ := HZ2.out.inp.two
 go_upto_region 4 with (first
  | ((with_reducible show wpList _ _ _ _ _ _); refine wpList_load_at rfl 35 _ rfl w.heap.size 0 rfl 35 _ (stC s1) (0, 0) _ HZ2.out.st Tryz.underlying35 rfl (by kernel_rfl) (stC_slf s1) ?_)
  | (go_at_call 17; ((with_reducible refine (HP2.out _ HZ2.out.ev).mono ?_); rintro e w3 ⟨v2, rfl, hv, g3, hf⟩; have HZ3 := hid (HZ2.out.told hv g3 hf); clear hv g3 hf))
  | ((with_reducible show wpList _ _ _ _ _ _); refine wpList_store_at rfl 35 _ _ rfl w.heap.size 0 (stC s2) rfl rfl 35 _ HZ3.out.st (by kernel_rfl) (by show 60 ≤ 60; decide) rfl ?_))
 generalize hW : World.setRow _ _ _ = w4
 have HZ4 : Hid (Rz w w4 s2 a b v2 l2) := hid (by rw [← hW]; exact HZ3.out.row s2)
 clear hW HZ2 HZ3 HP2 i0 i1 HM1 HF1 HM0
 go_cut [6, 7, 8] (fun s6 s7 s8 wx => s6 = v2 ∧ ∃ B7 B8, s7 = .pointer (some ⟨B7, 0, none⟩) ∧ s8 = .pointer (some ⟨B8, 0, none⟩) ∧ Rz w wx s2 a b v2 l2 ∧ At wx B7 (plA s2.p0) 29 ∧ At wx B8 (plA s2.p1) 29)
 case first =>
  as_aux_lemma =>
   have HZ_0 := hid (HZ4.out.below (Ev.bd1 (Ev.br _)))
   refine wp_region_noPanic ?_
   refine wp_region_held_drew (S := (fun W => At W w.heap.size (stC s2).toArray 35)) (by kernel_rfl) HZ_0.out.st (fun hHeld => ?_)
   generalize World.drew w4 = u0 at HZ_0 hHeld ⊢
   (refine tk 0 29 ?_ rfl rfl (by kernel_rfl) (by rfl) ?_ (by assumption) ?_)
   rotate_left
   · (intro W hSW; go_simp; (try with_reducible rfl))
   simp only [Act.put, pu1, pu2, pu3]
   (refine tk 1 30 ?_ rfl rfl (by kernel_rfl) (by rfl) ?_ (by assumption) ?_)
   rotate_left
   · (intro W hSW; go_simp; (try with_reducible rfl))
   simp only [Act.put, pu1, pu2, pu3]
   (refine tk 2 31 (.agg (plC s2.p0).toArray) rfl rfl (by kernel_rfl) (by rfl) ?_ (by assumption) ?_)
   · (intro W hSW; exact exec_load_at W 29 _ rfl w.heap.size 4 rfl 35 _ (plC s2.p0) (0, 0) _ hSW Tryz.underlying29 rfl (by kernel_rfl) (stC_pt s2 0 (by decide)))
   simp only [Act.put, pu1, pu2, pu3]
   (refine tk 3 32 ?_ rfl rfl (by kernel_rfl) (by rfl) ?_ (by assumption) ?_)
   rotate_left
   · (intro W hSW; go_simp; (try with_reducible rfl))
   simp only [Act.put, pu1, pu2, pu3]
   (refine tk 4 33 ?_ rfl rfl (by kernel_rfl) (by rfl) ?_ (by assumption) ?_)
   rotate_left
   · (intro W hSW; go_simp; (try with_reducible rfl))
   simp only [Act.put, pu1, pu2, pu3]
   (refine tk 5 34 (.agg (plC s2.p1).toArray) rfl rfl (by kernel_rfl) (by rfl) ?_ (by assumption) ?_)
   · (intro W hSW; exact exec_load_at W 29 _ rfl w.heap.size 14 rfl 35 _ (plC s2.p1) (0, 0) _ hSW Tryz.underlying29 rfl (by kernel_rfl) (stC_pt s2 1 (by decide)))
   simp only [Act.put, pu1, pu2, pu3]
   refine wpAnyH_ready (rs := [6, 7]) (by kernel_rfl) (by simp) ?_
   refine AllReadyH.cons (i := 6) rfl (fun K hKK => ?_) ?_
   · go_simp
     have HA7_1 := hid (At.new u0 #[.int .i32 0, .int .i32 0, .int .i32 0, .int .i32 0, .int .i64 0, .int .i64 0, .int .i64 0, .int .i64 0, .int .i64 0, .int .i64 0] 29)
     have HZ_1 := hid (HZ_0.out.below (Ev.bal (Ev.br u0) (.cells #[.int .i32 0, .int .i32 0, .int .i32 0, .int .i32 0, .int .i64 0, .int .i64 0, .int .i64 0, .int .i64 0, .int .i64 0, .int .i64 0] 29)))
     have HG7 := hid HZ_0.out.res.lt
     have HO7 := hid (evs_off HZ_0.out.ev)
     refine hKK.out _ _ HZ_1.out.st (fun hHeld => ?_)
     clear hKK K
     (try simp only [Act.put, pu1, pu2, pu3])
     generalize World.alloc u0 _ = u1 at HZ_1 HA7_1 hHeld ⊢
     generalize u0.heap.size = B7 at HA7_1 HG7 HO7 ⊢
     refine wpAnyH_ready (rs := [7]) (by kernel_rfl) (by simp) ?_
     refine AllReadyH.cons (i := 7) rfl (fun K hKK => ?_) AllReadyH.nil
     go_simp
     have HA8_2 := hid (At.new u1 #[.int .i32 0, .int .i32 0, .int .i32 0, .int .i32 0, .int .i64 0, .int .i64 0, .int .i64 0, .int .i64 0, .int .i64 0, .int .i64 0] 29)
     have HZ_2 := hid (HZ_1.out.below (Ev.bal (Ev.br u1) (.cells #[.int .i32 0, .int .i32 0, .int .i32 0, .int .i32 0, .int .i64 0, .int .i64 0, .int .i64 0, .int .i64 0, .int .i64 0, .int .i64 0] 29)))
     have HG8 := hid HZ_1.out.res.lt
     have HO8 := hid (evs_off HZ_1.out.ev)
     have HA7_2 := hid (HA7_1.out.more (.cells #[.int .i32 0, .int .i32 0, .int .i32 0, .int .i32 0, .int .i64 0, .int .i64 0, .int .i64 0, .int .i64 0, .int .i64 0, .int .i64 0] 29))
     have HN := hid (Nat.ne_of_lt HA7_1.out.lt)
     refine hKK.out _ _ HZ_2.out.st (fun hHeld => ?_)
     clear hKK K
     (try simp only [Act.put, pu1, pu2, pu3])
     generalize World.alloc u1 _ = u2 at HZ_2 HA8_2 HA7_2 hHeld ⊢
     generalize u1.heap.size = B8 at HA8_2 HG8 HO8 HN ⊢
     have HNE := hid (show B7 ≠ B8 from HN.out)
     refine wpAnyH_ready (rs := [8]) (by kernel_rfl) (by simp) ?_
     refine AllReadyH.cons (i := 8) rfl (fun K hKK => ?_) AllReadyH.nil
     rw [if_pos (by rfl)]
     refine wp_store_at 29 _ _ rfl B7 0 (plC s2.p0) rfl rfl 29 _ HA7_2.out (by kernel_rfl) (by show 10 ≤ 10; decide) rfl ?_
     change K (Act.put _ none undef) (u2.setRow B7 (plA s2.p0))
     have HA7_3 := hid (at_row HA7_2.out (plA s2.p0))
     have HA8_3 := hid (at_row_far HA8_2.out (Ne.symm HNE.out) (plA s2.p0))
     have HZ_3 := hid (HZ_2.out.othr HG7.out HO7.out (plA s2.p0))
     refine hKK.out _ _ HZ_3.out.st (fun hHeld => ?_)
     clear hKK K
     (try simp only [Act.put])
     generalize World.setRow u2 _ _ = u3 at HZ_3 HA7_3 HA8_3 hHeld ⊢
     refine wpAnyH_ready (rs := [9]) (by kernel_rfl) (by simp) ?_
     refine AllReadyH.cons (i := 9) rfl (fun K hKK => ?_) AllReadyH.nil
     rw [if_pos (by rfl)]
     refine wp_store_at 29 _ _ rfl B8 0 (plC s2.p1) rfl rfl 29 _ HA8_3.out (by kernel_rfl) (by show 10 ≤ 10; decide) rfl ?_
     change K (Act.put _ none undef) (u3.setRow B8 (plA s2.p1))
     have HA8_4 := hid (at_row HA8_3.out (plA s2.p1))
     have HA7_4 := hid (at_row_far HA7_3.out HNE.out (plA s2.p1))
     have HZ_4 := hid (HZ_3.out.othr HG8.out HO8.out (plA s2.p1))
     refine hKK.out _ _ HZ_4.out.st (fun hHeld => ?_)
     clear hKK K
     (try simp only [Act.put])
     generalize World.setRow u3 _ _ = u4 at HZ_4 HA7_4 HA8_4 hHeld ⊢
     refine wpAnyH_done (by kernel_rfl) ?_ _
     refine NoPanic.normal ?_
     go_wp2_with fail
     go_meet
     case rel => exact ⟨rfl, B7, B8, rfl, rfl, HZ_4.out, HA7_4.out, HA8_4.out⟩
   refine AllReadyH.cons (i := 7) rfl (fun K hKK => ?_) AllReadyH.nil
   go_simp
   have HA8_5 := hid (At.new u0 #[.int .i32 0, .int .i32 0, .int .i32 0, .int .i32 0, .int .i64 0, .int .i64 0, .int .i64 0, .int .i64 0, .int .i64 0, .int .i64 0] 29)
   have HZ_5 := hid (HZ_0.out.below (Ev.bal (Ev.br u0) (.cells #[.int .i32 0, .int .i32 0, .int .i32 0, .int .i32 0, .int .i64 0, .int .i64 0, .int .i64 0, .int .i64 0, .int .i64 0, .int .i64 0] 29)))
   have HG8 := hid HZ_0.out.res.lt
   have HO8 := hid (evs_off HZ_0.out.ev)
   refine hKK.out _ _ HZ_5.out.st (fun hHeld => ?_)
   clear hKK K
   (try simp only [Act.put, pu1, pu2, pu3])
   generalize World.alloc u0 _ = u5 at HZ_5 HA8_5 hHeld ⊢
   generalize u0.heap.size = B8 at HA8_5 HG8 HO8 ⊢
   refine wpAnyH_ready (rs := [6]) (by kernel_rfl) (by simp) ?_
   refine AllReadyH.cons (i := 6) rfl (fun K hKK => ?_) AllReadyH.nil
   go_simp
   have HA7_6 := hid (At.new u5 #[.int .i32 0, .int .i32 0, .int .i32 0, .int .i32 0, .int .i64 0, .int .i64 0, .int .i64 0, .int .i64 0, .int .i64 0, .int .i64 0] 29)
   have HZ_6 := hid (HZ_5.out.below (Ev.bal (Ev.br u5) (.cells #[.int .i32 0, .int .i32 0, .int .i32 0, .int .i32 0, .int .i64 0, .int .i64 0, .int .i64 0, .int .i64 0, .int .i64 0, .int .i64 0] 29)))
   have HG7 := hid HZ_5.out.res.lt
   have HO7 := hid (evs_off HZ_5.out.ev)
   have HA8_6 := hid (HA8_5.out.more (.cells #[.int .i32 0, .int .i32 0, .int .i32 0, .int .i32 0, .int .i64 0, .int .i64 0, .int .i64 0, .int .i64 0, .int .i64 0, .int .i64 0] 29))
   have HN := hid (Nat.ne_of_lt HA8_5.out.lt)
   refine hKK.out _ _ HZ_6.out.st (fun hHeld => ?_)
   clear hKK K
   (try simp only [Act.put, pu1, pu2, pu3])
   generalize World.alloc u5 _ = u6 at HZ_6 HA7_6 HA8_6 hHeld ⊢
   generalize u5.heap.size = B7 at HA7_6 HG7 HO7 HN ⊢
   have HNE := hid (show B7 ≠ B8 from Ne.symm HN.out)
   refine wpAnyH_ready (rs := [8]) (by kernel_rfl) (by simp) ?_
   refine AllReadyH.cons (i := 8) rfl (fun K hKK => ?_) AllReadyH.nil
   rw [if_pos (by rfl)]
   refine wp_store_at 29 _ _ rfl B7 0 (plC s2.p0) rfl rfl 29 _ HA7_6.out (by kernel_rfl) (by show 10 ≤ 10; decide) rfl ?_
   change K (Act.put _ none undef) (u6.setRow B7 (plA s2.p0))
   have HA7_7 := hid (at_row HA7_6.out (plA s2.p0))
   have HA8_7 := hid (at_row_far HA8_6.out (Ne.symm HNE.out) (plA s2.p0))
   have HZ_7 := hid (HZ_6.out.othr HG7.out HO7.out (plA s2.p0))
   refine hKK.out _ _ HZ_7.out.st (fun hHeld => ?_)
   clear hKK K
   (try simp only [Act.put])
   generalize World.setRow u6 _ _ = u7 at HZ_7 HA7_7 HA8_7 hHeld ⊢
   refine wpAnyH_ready (rs := [9]) (by kernel_rfl) (by simp) ?_
   refine AllReadyH.cons (i := 9) rfl (fun K hKK => ?_) AllReadyH.nil
   rw [if_pos (by rfl)]
   refine wp_store_at 29 _ _ rfl B8 0 (plC s2.p1) rfl rfl 29 _ HA8_7.out (by kernel_rfl) (by show 10 ≤ 10; decide) rfl ?_
   change K (Act.put _ none undef) (u7.setRow B8 (plA s2.p1))
   have HA8_8 := hid (at_row HA8_7.out (plA s2.p1))
   have HA7_8 := hid (at_row_far HA7_7.out HNE.out (plA s2.p1))
   have HZ_8 := hid (HZ_7.out.othr HG8.out HO8.out (plA s2.p1))
   refine hKK.out _ _ HZ_8.out.st (fun hHeld => ?_)
   clear hKK K
   (try simp only [Act.put])
   generalize World.setRow u7 _ _ = u8 at HZ_8 HA7_8 HA8_8 hHeld ⊢
   refine wpAnyH_done (by kernel_rfl) ?_ _
   refine NoPanic.normal ?_
   go_wp2_with fail
   go_meet
   case rel => exact ⟨rfl, B7, B8, rfl, rfl, HZ_8.out, HA7_8.out, HA8_8.out⟩
 obtain ⟨ev2, B7, B8, rfl, rfl, hZ, hA7, hA8⟩ := hcut
 obtain rfl := ev2.symm
 have HZ5 := hid hZ
 have HA7 := hid hA7
 have HA8 := hid hA8
 have n7 := at_ne HZ5.out.st HA7.out (by decide)
 have n8 := at_ne HZ5.out.st HA8.out (by decide)
 clear hZ hA7 hA8 HZ4
 obtain ⟨bb, HBB⟩ : ∃ bb : Bool, Hid (bb = decide (s2.p0.dn = 0 ∧ s2.p1.dn = 0 ∧ touchB s2.p0.ax s2.p0.ay 262144 s2.p1.ax s2.p1.ay 262144 = true)) := ⟨_, hid rfl⟩
 go_upto_region 5 with fail
 go_cut [6, 49] (fun s6 s49 wx => s6 = v2 ∧ s49 = .bool bb ∧ Rz w wx s2 a b v2 l2 ∧ At wx B7 (plA s2.p0) 29 ∧ At wx B8 (plA s2.p1) 29)
 case first =>
  as_aux_lemma =>
   obtain ⟨p0, p1, p2, p3, p4, p5, p6, p7, p8, p9⟩ := at_pl HA7.out
   obtain ⟨r0, r1, r2, r3, r4, r5, r6, r7, r8, r9⟩ := at_pl HA8.out
   have HTc := fun W => Sh.rtouch_c s2.p0.ax s2.p0.ay 262144 s2.p1.ax s2.p1.ay 262144 (in32_of HM2.out.p0.ax) (in32_of HM2.out.p0.ay) (by decide) (in32_of HM2.out.p1.ax) (in32_of HM2.out.p1.ay) (by decide) W
   by_cases d0 : s2.p0.dn = 0
   · have h0 : (s2.p0.dn == 0) = true := by simp [d0]
     by_cases d1 : s2.p1.dn = 0
     · have h1 : (s2.p1.dn == 0) = true := by simp [d1]
       have HBx : Hid (bb = touchB s2.p0.ax s2.p0.ay 262144 s2.p1.ax s2.p1.ay 262144) := hid (by rw [HBB.out]; simp [d0, d1])
       clear d0 d1
       generalize touchB s2.p0.ax s2.p0.ay 262144 s2.p1.ax s2.p1.ay 262144 = tt at HTc HBx
       go_wp2_with (go_at_call 18; ((with_reducible refine (HTc _).mono ?_); rintro e w5 ⟨rfl, g5⟩; have HZ6 := hid (HZ5.out.below g5); have HA7b := hid (HA7.out.below g5); have HA8b := hid (HA8.out.below g5)))
       go_meet
       case rel => rw [HBx.out]; exact ⟨rfl, rfl, HZ6.out, HA7b.out, HA8b.out⟩
     · have h1 : (s2.p1.dn == 0) = false := by simp [d1]
       have HBx := hid (show bb = false by rw [HBB.out]; simp [d1])
       clear d0 d1 HTc
       go_wp2_with fail
       go_meet
       case rel => rw [HBx.out]; exact ⟨rfl, rfl, HZ5.out, HA7.out, HA8.out⟩
   · have h0 : (s2.p0.dn == 0) = false := by simp [d0]
     have HBx := hid (show bb = false by rw [HBB.out]; simp [d0])
     clear d0 HTc
     go_wp2_with fail
     go_meet
     case rel => rw [HBx.out]; exact ⟨rfl, rfl, HZ5.out, HA7.out, HA8.out⟩
 obtain ⟨ev3, rfl, hZ, hA7, hA8⟩ := hcut
 obtain rfl := ev3.symm
 have HZ7 := hid hZ
 have HA7c := hid hA7
 have HA8c := hid hA8
 clear hZ hA7 hA8 HZ5 HA7 HA8
 have HTold : Hid (∀ W, Evs W v2 l2 → Calls Tryz.prog 19 #[v2, .int .i64 s.fr, .int .i64 0, .int .i64 4, .int .i64 16384, .int .i64 6, .int .i64 0, .int .i32 0] W fun r w' => ∃ v', r = .returned v' ∧ Evs w' v' (tel s.fr l2 0 4 0) ∧ Below W.heap.size W w' ∧ Ev.Frv W w' v2 v') := hid (fun W hv => rtold0_c 4 (by decide) (by decide) v2 l2 s.fr W hv HF2.out.2.2.2.1)
 go_upto_if 49 with fail
 go_cut [6] (fun s6 wx => ∃ v', s6 = v' ∧ Rz w wx (clashP (s2, l2)).1 a b v' (clashP (s2, l2)).2)
 case first =>
  as_aux_lemma =>
   cases bb
   · have HE := hid (show clashP (s2, l2) = (s2, l2) from if_neg (fun h => by have := HBB.out; rw [decide_eq_true h] at this; cases this))
     go_wp2_with fail
     go_meet
     case rel => rw [HE.out]; exact ⟨v2, rfl, HZ7.out⟩
   · have HE : Hid (clashP (s2, l2) = ({ s2 with p0 := { s2.p0 with vx := s2.p1.vx, vy := s2.p1.vy }, p1 := { s2.p1 with vx := s2.p0.vx, vy := s2.p0.vy } }, tel s.fr l2 0 4 0)) := hid (by
      rw [← HF2.out.1]
      exact if_pos (of_decide_eq_true HBB.out.symm))
     obtain ⟨r0, r1, r2, r3, r4, r5, r6, r7, r8, r9⟩ := at_pl HA8c.out
     have sf := HZ7.out.st.frozen
     have s6 : wc.cell? ⟨w.heap.size, 6, none⟩ = some (.int .i32 s2.p0.vx) := st_at HZ7.out.st 6
     have s7 : wc.cell? ⟨w.heap.size, 7, none⟩ = some (.int .i32 s2.p0.vy) := st_at HZ7.out.st 7
     go_upto_region 7 with fail
     have HZ8 := hid ((HZ7.out.sets (j := 6) (u := .int .i32 s2.p1.vx) (s' := { s2 with p0 := { s2.p0 with vx := s2.p1.vx } }) rfl).sets (j := 7) (u := .int .i32 s2.p1.vy) (s' := { s2 with p0 := { s2.p0 with vx := s2.p1.vx, vy := s2.p1.vy } }) rfl)
     have HA7d := hid ((HA7c.out.far (j := 6) (Ne.symm n7) (.int .i32 s2.p1.vx)).far (j := 7) (Ne.symm n7) (.int .i32 s2.p1.vy))
     generalize World.setCell (World.setCell wc _ _) _ _ = w8 at HZ8 HA7d ⊢
     clear r0 r1 r2 r3 r4 r5 r6 r7 r8 r9 sf s6 s7 HZ7 HA7c HA8c
     obtain ⟨r0, r1, r2, r3, r4, r5, r6, r7, r8, r9⟩ := at_pl HA7d.out
     have sf := HZ8.out.st.frozen
     have s6 : w8.cell? ⟨w.heap.size, 16, none⟩ = some (.int .i32 s2.p1.vx) := st_at HZ8.out.st 16
     have s7 : w8.cell? ⟨w.heap.size, 17, none⟩ = some (.int .i32 s2.p1.vy) := st_at HZ8.out.st 17
     go_upto_region 8 with fail
     have HZ9 := hid ((HZ8.out.sets (j := 16) (u := .int .i32 s2.p0.vx) (s' := { s2 with p0 := { s2.p0 with vx := s2.p1.vx, vy := s2.p1.vy }, p1 := { s2.p1 with vx := s2.p0.vx } }) rfl).sets (j := 17) (u := .int .i32 s2.p0.vy) (s' := { s2 with p0 := { s2.p0 with vx := s2.p1.vx, vy := s2.p1.vy }, p1 := { s2.p1 with vx := s2.p0.vx, vy := s2.p0.vy } }) rfl)
     generalize World.setCell (World.setCell w8 _ _) _ _ = w9 at HZ9 ⊢
     clear r0 r1 r2 r3 r4 r5 r6 r7 r8 r9 sf s6 s7 HZ8 HA7d
     have c0 : w9.cell? ⟨w.heap.size, 0, none⟩ = some (.int .i64 s.fr) := by rw [← HF2.out.1]; exact st_at HZ9.out.st 0
     go_wp2_with (go_at_call 19; ((with_reducible refine (HTold.out _ HZ9.out.ev).mono ?_); rintro e w10 ⟨v', rfl, hv, g10, hf⟩; have HZ10 := hid (HZ9.out.told hv g10 hf); clear hv g10 hf))
     go_meet
     case rel => rw [HE.out]; exact ⟨v', rfl, HZ10.out⟩
 obtain ⟨v3, ev4, hZ⟩ := hcut
 obtain rfl := ev4.symm
 have HZ11 := hid hZ
 have HM3 := hid (Ms.clash (q := (s2, l2)) HM2.out)
 have HF3 : Hid ((clashP (s2, l2)).1.fr = s.fr ∧ pageI s.fr (clashP (s2, l2)).2) := hid ⟨(clash_keeps (s2, l2)).1.trans HF2.out.1, by have := clash_page (q := (s2, l2)) (by dsimp only; rw [HF2.out.1]; exact HF2.out.2); dsimp only at this; rw [HF2.out.1] at this; exact this⟩
 clear hZ HZ7 HA7c HA8c n7 n8 HTold HBB HM2 HF2
 generalize clashP (s2, l2) = q3 at HZ11 HM3 HF3 HS
 obtain ⟨s3, l3⟩ := q3
 dsimp only at HZ11 HM3 HF3
 go_wp2_with fail
 go_loopw [6, 9] (fun s6 i wr => ∃ (k : Nat) (v' : Value), s6 = v' ∧ k ≤ 6 ∧ i = .int .i64 k ∧ Rz w wr (fliesP k (s3, l3)).1 a b v' (fliesP k (s3, l3)).2) (fun _ i _ => 6 - (intOf i).toNat)
 case atStart => exact ⟨0, v3, rfl, by decide, rfl, HZ11.out⟩
 case round =>
  obtain ⟨k, vk, evk, hk, rfl, hR⟩ := hrel
  obtain rfl := evk.symm
  have HZ12 := hid hR
  clear hR HZ11
  have HMk := hid (Ms.flies (q := (s3, l3)) HM3.out (by decide) k hk)
  have HFk : Hid ((fliesP k (s3, l3)).1.fr = s.fr ∧ pageI s.fr (fliesP k (s3, l3)).2) := hid ⟨(flies_keeps (s3, l3) k hk).1.trans HF3.out.1, by have := flies_page (q := (s3, l3)) (by dsimp only; rw [HF3.out.1]; exact HF3.out.2) k hk; dsimp only at this; rw [HF3.out.1] at this; exact this⟩
  have hk0 : (0 : Int) ≤ (k : Int) := by omega
  by_cases hlt : k < 6
  · have HNx : Hid (fliesP (k + 1) (s3, l3) = flyP k (fliesP k (s3, l3))) := hid rfl
    generalize fliesP k (s3, l3) = qk at HZ12 HMk HFk HNx
    obtain ⟨S, lk⟩ := qk
    dsimp only at HZ12 HMk HFk
    have hlt2 : (k : Int) < 6 := by omega
    have hx := (HMk.out.sh k hlt).1
    have cb : wr.cell? ⟨w.heap.size, 24 + k * 6 + 4, none⟩ = some (.int .i64 (shS S k).ow) := (st_at HZ12.out.st _).trans (stB_ow S hlt)
    by_cases ho : (shS S k).ow = 0
    · have HE := hid (show flyP k (S, lk) = (S, lk) from if_pos ho)
      have hob : ¬ 0 < (shS S k).ow := by omega
      clear ho hx
      go_wp2_with fail
      go_roundw
      case rel => exact ⟨k + 1, vk, rfl, by omega, by go_num, by rw [HNx.out, HE.out]; exact HZ12.out⟩
      case measure => simp [intOf]; omega
    · have hob : 0 < (shS S k).ow := by
       rcases hx.ok with e | e
       · exact absurd (congrArg Bu.ow e) ho
       · omega
      have HSh : Hid (∀ W, Evs W vk lk → Calls Tryz.prog 20 #[.agg (stC S).toArray, vk, .int .i64 k] W fun e w' => ∃ v', e = .returned (.tuple #[.agg (stC (flyP k (S, lk)).1).toArray, v']) ∧ Evs w' v' (flyP k (S, lk)).2 ∧ Below W.heap.size W w' ∧ Ev.Frv W w' vk v') := hid (fun W g => rshot_c k hlt S vk lk W g (by rw [HFk.out.1]; exact HFk.out.2) hx ho (fun o h2 => (HMk.out.pl h2).1))
      clear ho hx
      generalize flyP k (S, lk) = qn at HSh HNx
      obtain ⟨Sn, ln⟩ := qn
      dsimp only at HSh
      go_wp2_with (first
       | ((with_reducible show wpList _ _ _ _ _ _); refine wpList_load_at rfl 35 _ rfl w.heap.size 0 rfl 35 _ (stC S) (0, 0) _ HZ12.out.st Tryz.underlying35 rfl (by kernel_rfl) (stC_slf S) ?_)
       | (go_at_call 20; ((with_reducible refine (HSh.out _ HZ12.out.ev).mono ?_); rintro e w13 ⟨vn, rfl, hv, g13, hf⟩; have HZ13 := hid (HZ12.out.told hv g13 hf); clear hv g13 hf))
       | ((with_reducible show wpList _ _ _ _ _ _); refine wpList_store_at rfl 35 _ _ rfl w.heap.size 0 (stC Sn) rfl rfl 35 _ HZ13.out.st (by kernel_rfl) (by show 60 ≤ 60; decide) rfl ?_))
      go_roundw
      case rel => exact ⟨k + 1, vn, rfl, by omega, by go_num, by rw [HNx.out]; exact HZ13.out.row Sn⟩
      case measure => simp [intOf]; omega
  · have hk6 : k = 6 := by omega
    subst hk6
    generalize fliesP 6 (s3, l3) = q4 at HZ12 HMk HFk HS
    obtain ⟨S4, l4⟩ := q4
    dsimp only at HZ12 HMk HFk
    clear HM3 HF3
    have hlf := HMk.out.lf
    have c3 : wr.cell? ⟨w.heap.size, 3, none⟩ = some (.int .i64 S4.lf) := st_at HZ12.out.st 3
    have sf := HZ12.out.st.frozen
    go_upto_region 15 with fail
    obtain ⟨S5, HS5⟩ : ∃ S5, Hid (S5 = { S4 with lf := S4.lf - 1 }) := ⟨_, hid rfl⟩
    have HZ14 : Hid (Rz w (wr.setCell ⟨w.heap.size, 3, none⟩ (.int .i64 (S4.lf - 1))) S5 a b vk l4) := hid (by rw [HS5.out]; exact HZ12.out.sets rfl)
    generalize World.setCell wr _ _ = w14 at HZ14 ⊢
    clear c3 sf HZ12
    obtain ⟨b2, HB2⟩ : ∃ bb : Bool, Hid (bb = decide (S4.lf = 1 ∨ 3 ≤ S4.p0.sc ∨ 3 ≤ S4.p1.sc)) := ⟨_, hid rfl⟩
    have c3 : w14.cell? ⟨w.heap.size, 3, none⟩ = some (.int .i64 (S4.lf - 1)) := by have := st_at HZ14.out.st 3; rw [HS5.out] at this; exact this
    have c13 : w14.cell? ⟨w.heap.size, 13, none⟩ = some (.int .i64 S4.p0.sc) := by have := st_at HZ14.out.st 13; rw [HS5.out] at this; exact this
    have c23 : w14.cell? ⟨w.heap.size, 23, none⟩ = some (.int .i64 S4.p1.sc) := by have := st_at HZ14.out.st 23; rw [HS5.out] at this; exact this
    go_cut [6, 101] (fun s6 s101 wx => s6 = vk ∧ s101 = .bool b2 ∧ Rz w wx S5 a b vk l4)
    case first =>
     as_aux_lemma =>
      by_cases d0 : S4.lf = 1
      · have h0 : (S4.lf - 1 == 0) = true := by simp [d0]
        have HBx := hid (show b2 = true by rw [HB2.out]; simp [d0])
        clear d0
        go_wp2_with fail
        go_meet
        case rel => rw [HBx.out]; exact ⟨rfl, rfl, HZ14.out⟩
      · have h0 : (S4.lf - 1 == 0) = false := by simp; omega
        by_cases d1 : 3 ≤ S4.p0.sc
        · have HBx := hid (show b2 = true by rw [HB2.out]; simp [d1])
          clear d0
          go_wp2_with fail
          go_meet
          case rel => rw [HBx.out]; exact ⟨rfl, rfl, HZ14.out⟩
        · by_cases d2 : 3 ≤ S4.p1.sc
          · have HBx := hid (show b2 = true by rw [HB2.out]; simp [d2])
            clear d0
            go_wp2_with fail
            go_meet
            case rel => rw [HBx.out]; exact ⟨rfl, rfl, HZ14.out⟩
          · have HBx := hid (show b2 = false by rw [HB2.out]; simp [d0, d1, d2])
            clear d0
            go_wp2_with fail
            go_meet
            case rel => rw [HBx.out]; exact ⟨rfl, rfl, HZ14.out⟩
    obtain ⟨ev5, rfl, hZ⟩ := hcut
    obtain rfl := ev5.symm
    have HZ5 := hid hZ
    clear hZ HZ14 c3 c13 c23
    have HTold : Hid (∀ W, Evs W vk l4 → Calls Tryz.prog 19 #[vk, .int .i64 s.fr, .int .i64 0, .int .i64 7, .int .i64 32768, .int .i64 12, .int .i64 0, .int .i32 0] W fun r w' => ∃ v', r = .returned v' ∧ Evs w' v' (tel s.fr l4 0 7 0) ∧ Below W.heap.size W w' ∧ Ev.Frv W w' vk v') := hid (fun W hv => rtold0_c 7 (by decide) (by decide) vk l4 s.fr W hv HFk.out.2.2.2.1)
    go_upto_if 101 with fail
    go_cut [6] (fun s6 wx => ∃ v', s6 = v' ∧ Rz w wx (countP (S4, l4)).1 a b v' (countP (S4, l4)).2)
    case first =>
     as_aux_lemma =>
      cases b2
      · have HE : Hid (countP (S4, l4) = (S5, l4)) := hid (by rw [HS5.out]; exact if_neg (fun h => by have := HB2.out; rw [decide_eq_true h] at this; cases this))
        go_wp2_with fail
        go_meet
        case rel => rw [HE.out]; exact ⟨vk, rfl, HZ5.out⟩
      · have HE : Hid (countP (S4, l4) = (⟨S5.fr, S5.di, S5.rd + 1, 600, fresh0, fresh1, zeroB, zeroB, zeroB, zeroB, zeroB, zeroB⟩, tel s.fr l4 0 7 0)) := hid (by rw [HS5.out, ← HFk.out.1]; exact if_pos (of_decide_eq_true HB2.out.symm))
        have hrd : 0 ≤ S5.rd ∧ S5.rd ≤ 1073741824 := by rw [HS5.out]; exact HMk.out.rd
        have HRW := hid (IntWalk.i64_in (S5.rd + 1) (by omega))
        have c0 : wc.cell? ⟨w.heap.size, 0, none⟩ = some (.int .i64 s.fr) := by have := st_at HZ5.out.st 0; rw [HS5.out] at this; rw [← HFk.out.1]; exact this
        go_upto_region 17 with (go_at_call 19; ((with_reducible refine (HTold.out _ HZ5.out.ev).mono ?_); rintro e w15 ⟨v6, rfl, hv, g15, hf⟩; have HZ6 := hid (HZ5.out.told hv g15 hf); clear hv g15 hf))
        clear c0
        have hK := hid (fun (W : World) (g : W.cell? ⟨w.heap.size, 0, none⟩ = some (.int .i64 S5.fr) ∧ W.cell? ⟨w.heap.size, 1, none⟩ = some (.int .u32 S5.di)) => g)
        have HZ_0 := hid (HZ6.out.below (Ev.bd1 (Ev.br _)))
        refine wp_region_noPanic ?_
        refine wp_region_held_drew (S := (fun W : World => W.cell? ⟨w.heap.size, 0, none⟩ = some (.int .i64 S5.fr) ∧ W.cell? ⟨w.heap.size, 1, none⟩ = some (.int .u32 S5.di))) (by kernel_rfl) ⟨st_at HZ_0.out.st 0, st_at HZ_0.out.st 1⟩ (fun hHeld => ?_)
        generalize World.drew _ = u0 at HZ_0 hHeld ⊢
        (refine tk 0 106 ?_ rfl rfl (by kernel_rfl) (by rfl) ?_ (by assumption) ?_)
        rotate_left
        · (intro W hSW; go_simp; (try with_reducible rfl))
        simp only [Act.put, pu1, pu2, pu3]
        (refine tk 1 107 ?_ rfl rfl (by kernel_rfl) (by rfl) ?_ (by assumption) ?_)
        rotate_left
        · (intro W hSW; have hSW2 := hK.out W hSW; go_simp; (try with_reducible rfl))
        simp only [Act.put, pu1, pu2, pu3]
        (refine tk 2 108 ?_ rfl rfl (by kernel_rfl) (by rfl) ?_ (by assumption) ?_)
        rotate_left
        · (intro W hSW; go_simp; (try with_reducible rfl))
        simp only [Act.put, pu1, pu2, pu3]
        (refine tk 3 109 ?_ rfl rfl (by kernel_rfl) (by rfl) ?_ (by assumption) ?_)
        rotate_left
        · (intro W hSW; have hSW2 := hK.out W hSW; go_simp; (try with_reducible rfl))
        simp only [Act.put, pu1, pu2, pu3]
        (refine tk 4 110 ?_ rfl rfl (by kernel_rfl) (by rfl) ?_ (by assumption) ?_)
        rotate_left
        · (intro W hSW; go_simp; (try with_reducible rfl))
        simp only [Act.put, pu1, pu2, pu3]
        refine wpAnyH_ready (rs := [5, 7]) (by kernel_rfl) (by simp) ?_
        refine AllReadyH.cons (i := 5) rfl (fun K hKK => ?_) ?_
        · have cr : u0.cell? ⟨w.heap.size, 2, none⟩ = some (.int .i64 S5.rd) := st_at HZ_0.out.st 2
          rw [if_pos (by rfl)]
          refine wp_load_one 3 _ rfl w.heap.size 2 rfl _ Tryz.underlying3 rfl (.int .i64 S5.rd) cr ?_
          change K (Act.put _ (some 111) (.int .i64 S5.rd)) u0
          clear cr
          have HZ_1 := HZ_0
          refine hKK.out _ _ hHeld (fun hHeld => ?_)
          clear hKK K
          (try simp only [Act.put, pu1, pu2, pu3])
          obtain ⟨u1, hu1⟩ : ∃ z, z = u0 := ⟨_, rfl⟩
          subst hu1
          (refine tk 6 112 (.int .i64 (S5.rd + 1)) rfl rfl (by kernel_rfl) (by rfl) ?_ (by assumption) ?_)
          · (intro W hSW; have hrw := HRW.out; go_simp; (try with_reducible rfl))
          simp only [Act.put, pu1, pu2, pu3]
          refine wpAnyH_ready (rs := [7]) (by kernel_rfl) (by simp) ?_
          refine AllReadyH.cons (i := 7) rfl (fun K hKK => ?_) AllReadyH.nil
          go_simp
          ((with_reducible refine (rfresh0_c _).mono ?_); rintro e u2 ⟨rfl, g2⟩; have HZ_2 := hid (HZ_1.out.below g2); clear g2)
          (try dsimp only)
          refine hKK.out _ _ ⟨st_at HZ_2.out.st 0, st_at HZ_2.out.st 1⟩ (fun hHeld => ?_)
          clear hKK K
          (try simp only [Act.put, pu1, pu2, pu3])
          refine wpAnyH_ready (rs := [8]) (by kernel_rfl) (by simp) ?_
          refine AllReadyH.cons (i := 8) rfl (fun K hKK => ?_) AllReadyH.nil
          go_simp
          ((with_reducible refine (rfresh1_c _).mono ?_); rintro e u3 ⟨rfl, g3⟩; have HZ_3 := hid (HZ_2.out.below g3); clear g3)
          (try dsimp only)
          refine hKK.out _ _ ⟨st_at HZ_3.out.st 0, st_at HZ_3.out.st 1⟩ (fun hHeld => ?_)
          clear hKK K
          (try simp only [Act.put, pu1, pu2, pu3])
          (refine tk 9 115 (.agg (plC fresh0 ++ plC fresh1).toArray) rfl rfl (by kernel_rfl) (by rfl) ?_ (by assumption) ?_)
          · (intro W hSW; exact exec_pls W _ _ rfl rfl rfl)
          simp only [Act.put, pu1, pu2, pu3]
          (refine tk 10 116 (.agg (stC ⟨S5.fr, S5.di, S5.rd + 1, 600, fresh0, fresh1, zeroB, zeroB, zeroB, zeroB, zeroB, zeroB⟩).toArray) rfl rfl (by kernel_rfl) (by rfl) ?_ (by assumption) ?_)
          · (intro W hSW; exact exec_newS S5.fr S5.di (S5.rd + 1) W _ _ _ _ _ rfl rfl rfl rfl rfl rfl)
          simp only [Act.put, pu1, pu2, pu3]
          refine wpAnyH_ready (rs := [11]) (by kernel_rfl) (by simp) ?_
          refine AllReadyH.cons (i := 11) rfl (fun K hKK => ?_) AllReadyH.nil
          rw [if_pos (by rfl)]
          refine wp_store_at 35 _ _ rfl w.heap.size 0 (stC ⟨S5.fr, S5.di, S5.rd + 1, 600, fresh0, fresh1, zeroB, zeroB, zeroB, zeroB, zeroB, zeroB⟩) rfl rfl 35 _ HZ_3.out.st (by kernel_rfl) (by show 60 ≤ 60; decide) rfl ?_
          change K (Act.put _ none undef) (u3.setRow w.heap.size (stC ⟨S5.fr, S5.di, S5.rd + 1, 600, fresh0, fresh1, zeroB, zeroB, zeroB, zeroB, zeroB, zeroB⟩).toArray)
          have HZ_4 := hid (HZ_3.out.row ⟨S5.fr, S5.di, S5.rd + 1, 600, fresh0, fresh1, zeroB, zeroB, zeroB, zeroB, zeroB, zeroB⟩)
          refine hKK.out _ _ ⟨st_at HZ_4.out.st 0, st_at HZ_4.out.st 1⟩ (fun hHeld => ?_)
          clear hKK K
          (try simp only [Act.put])
          generalize World.setRow u3 _ _ = u4 at HZ_4 hHeld ⊢
          refine wpAnyH_done (by kernel_rfl) ?_ _
          refine NoPanic.normal ?_
          go_wp2_with fail
          go_meet
          case rel => rw [HE.out]; exact ⟨v6, rfl, HZ_4.out⟩
        refine AllReadyH.cons (i := 7) rfl (fun K hKK => ?_) AllReadyH.nil
        go_simp
        ((with_reducible refine (rfresh0_c _).mono ?_); rintro e u5 ⟨rfl, g5⟩; have HZ_5 := hid (HZ_0.out.below g5); clear g5)
        (try dsimp only)
        refine hKK.out _ _ ⟨st_at HZ_5.out.st 0, st_at HZ_5.out.st 1⟩ (fun hHeld => ?_)
        clear hKK K
        (try simp only [Act.put, pu1, pu2, pu3])
        refine wpAnyH_ready (rs := [5, 8]) (by kernel_rfl) (by simp) ?_
        refine AllReadyH.cons (i := 5) rfl (fun K hKK => ?_) ?_
        · have cr : u5.cell? ⟨w.heap.size, 2, none⟩ = some (.int .i64 S5.rd) := st_at HZ_5.out.st 2
          rw [if_pos (by rfl)]
          refine wp_load_one 3 _ rfl w.heap.size 2 rfl _ Tryz.underlying3 rfl (.int .i64 S5.rd) cr ?_
          change K (Act.put _ (some 111) (.int .i64 S5.rd)) u5
          clear cr
          have HZ_6 := HZ_5
          refine hKK.out _ _ hHeld (fun hHeld => ?_)
          clear hKK K
          (try simp only [Act.put, pu1, pu2, pu3])
          obtain ⟨u6, hu6⟩ : ∃ z, z = u5 := ⟨_, rfl⟩
          subst hu6
          (refine tk 6 112 (.int .i64 (S5.rd + 1)) rfl rfl (by kernel_rfl) (by rfl) ?_ (by assumption) ?_)
          · (intro W hSW; have hrw := HRW.out; go_simp; (try with_reducible rfl))
          simp only [Act.put, pu1, pu2, pu3]
          refine wpAnyH_ready (rs := [8]) (by kernel_rfl) (by simp) ?_
          refine AllReadyH.cons (i := 8) rfl (fun K hKK => ?_) AllReadyH.nil
          go_simp
          ((with_reducible refine (rfresh1_c _).mono ?_); rintro e u7 ⟨rfl, g7⟩; have HZ_7 := hid (HZ_6.out.below g7); clear g7)
          (try dsimp only)
          refine hKK.out _ _ ⟨st_at HZ_7.out.st 0, st_at HZ_7.out.st 1⟩ (fun hHeld => ?_)
          clear hKK K
          (try simp only [Act.put, pu1, pu2, pu3])
          (refine tk 9 115 (.agg (plC fresh0 ++ plC fresh1).toArray) rfl rfl (by kernel_rfl) (by rfl) ?_ (by assumption) ?_)
          · (intro W hSW; exact exec_pls W _ _ rfl rfl rfl)
          simp only [Act.put, pu1, pu2, pu3]
          (refine tk 10 116 (.agg (stC ⟨S5.fr, S5.di, S5.rd + 1, 600, fresh0, fresh1, zeroB, zeroB, zeroB, zeroB, zeroB, zeroB⟩).toArray) rfl rfl (by kernel_rfl) (by rfl) ?_ (by assumption) ?_)
          · (intro W hSW; exact exec_newS S5.fr S5.di (S5.rd + 1) W _ _ _ _ _ rfl rfl rfl rfl rfl rfl)
          simp only [Act.put, pu1, pu2, pu3]
          refine wpAnyH_ready (rs := [11]) (by kernel_rfl) (by simp) ?_
          refine AllReadyH.cons (i := 11) rfl (fun K hKK => ?_) AllReadyH.nil
          rw [if_pos (by rfl)]
          refine wp_store_at 35 _ _ rfl w.heap.size 0 (stC ⟨S5.fr, S5.di, S5.rd + 1, 600, fresh0, fresh1, zeroB, zeroB, zeroB, zeroB, zeroB, zeroB⟩) rfl rfl 35 _ HZ_7.out.st (by kernel_rfl) (by show 60 ≤ 60; decide) rfl ?_
          change K (Act.put _ none undef) (u7.setRow w.heap.size (stC ⟨S5.fr, S5.di, S5.rd + 1, 600, fresh0, fresh1, zeroB, zeroB, zeroB, zeroB, zeroB, zeroB⟩).toArray)
          have HZ_8 := hid (HZ_7.out.row ⟨S5.fr, S5.di, S5.rd + 1, 600, fresh0, fresh1, zeroB, zeroB, zeroB, zeroB, zeroB, zeroB⟩)
          refine hKK.out _ _ ⟨st_at HZ_8.out.st 0, st_at HZ_8.out.st 1⟩ (fun hHeld => ?_)
          clear hKK K
          (try simp only [Act.put])
          generalize World.setRow u7 _ _ = u8 at HZ_8 hHeld ⊢
          refine wpAnyH_done (by kernel_rfl) ?_ _
          refine NoPanic.normal ?_
          go_wp2_with fail
          go_meet
          case rel => rw [HE.out]; exact ⟨v6, rfl, HZ_8.out⟩
        refine AllReadyH.cons (i := 8) rfl (fun K hKK => ?_) AllReadyH.nil
        go_simp
        ((with_reducible refine (rfresh1_c _).mono ?_); rintro e u9 ⟨rfl, g9⟩; have HZ_9 := hid (HZ_5.out.below g9); clear g9)
        (try dsimp only)
        refine hKK.out _ _ ⟨st_at HZ_9.out.st 0, st_at HZ_9.out.st 1⟩ (fun hHeld => ?_)
        clear hKK K
        (try simp only [Act.put, pu1, pu2, pu3])
        (refine tk 9 115 (.agg (plC fresh0 ++ plC fresh1).toArray) rfl rfl (by kernel_rfl) (by rfl) ?_ (by assumption) ?_)
        · (intro W hSW; exact exec_pls W _ _ rfl rfl rfl)
        simp only [Act.put, pu1, pu2, pu3]
        refine wpAnyH_ready (rs := [5]) (by kernel_rfl) (by simp) ?_
        refine AllReadyH.cons (i := 5) rfl (fun K hKK => ?_) AllReadyH.nil
        have cr : u9.cell? ⟨w.heap.size, 2, none⟩ = some (.int .i64 S5.rd) := st_at HZ_9.out.st 2
        rw [if_pos (by rfl)]
        refine wp_load_one 3 _ rfl w.heap.size 2 rfl _ Tryz.underlying3 rfl (.int .i64 S5.rd) cr ?_
        change K (Act.put _ (some 111) (.int .i64 S5.rd)) u9
        clear cr
        have HZ_10 := HZ_9
        refine hKK.out _ _ hHeld (fun hHeld => ?_)
        clear hKK K
        (try simp only [Act.put, pu1, pu2, pu3])
        obtain ⟨u10, hu10⟩ : ∃ z, z = u9 := ⟨_, rfl⟩
        subst hu10
        (refine tk 6 112 (.int .i64 (S5.rd + 1)) rfl rfl (by kernel_rfl) (by rfl) ?_ (by assumption) ?_)
        · (intro W hSW; have hrw := HRW.out; go_simp; (try with_reducible rfl))
        simp only [Act.put, pu1, pu2, pu3]
        (refine tk 10 116 (.agg (stC ⟨S5.fr, S5.di, S5.rd + 1, 600, fresh0, fresh1, zeroB, zeroB, zeroB, zeroB, zeroB, zeroB⟩).toArray) rfl rfl (by kernel_rfl) (by rfl) ?_ (by assumption) ?_)
        · (intro W hSW; exact exec_newS S5.fr S5.di (S5.rd + 1) W _ _ _ _ _ rfl rfl rfl rfl rfl rfl)
        simp only [Act.put, pu1, pu2, pu3]
        refine wpAnyH_ready (rs := [11]) (by kernel_rfl) (by simp) ?_
        refine AllReadyH.cons (i := 11) rfl (fun K hKK => ?_) AllReadyH.nil
        rw [if_pos (by rfl)]
        refine wp_store_at 35 _ _ rfl w.heap.size 0 (stC ⟨S5.fr, S5.di, S5.rd + 1, 600, fresh0, fresh1, zeroB, zeroB, zeroB, zeroB, zeroB, zeroB⟩) rfl rfl 35 _ HZ_10.out.st (by kernel_rfl) (by show 60 ≤ 60; decide) rfl ?_
        change K (Act.put _ none undef) (u10.setRow w.heap.size (stC ⟨S5.fr, S5.di, S5.rd + 1, 600, fresh0, fresh1, zeroB, zeroB, zeroB, zeroB, zeroB, zeroB⟩).toArray)
        have HZ_11 := hid (HZ_10.out.row ⟨S5.fr, S5.di, S5.rd + 1, 600, fresh0, fresh1, zeroB, zeroB, zeroB, zeroB, zeroB, zeroB⟩)
        refine hKK.out _ _ ⟨st_at HZ_11.out.st 0, st_at HZ_11.out.st 1⟩ (fun hHeld => ?_)
        clear hKK K
        (try simp only [Act.put])
        generalize World.setRow u10 _ _ = u11 at HZ_11 hHeld ⊢
        refine wpAnyH_done (by kernel_rfl) ?_ _
        refine NoPanic.normal ?_
        go_wp2_with fail
        go_meet
        case rel => rw [HE.out]; exact ⟨v6, rfl, HZ_11.out⟩
    obtain ⟨v7, ev7, hZ⟩ := hcut
    obtain rfl := ev7.symm
    have HZ8 := hid hZ
    have HF5 : Hid ((countP (S4, l4)).1.fr = s.fr) := hid ((count_fr (S4, l4)).trans HFk.out.1)
    have hfr0 : 0 ≤ s.fr := by rw [← HFk.out.1]; exact HMk.out.fr.1
    clear hZ HZ5 HTold HB2 HS5 HMk HFk hlf
    generalize countP (S4, l4) = q5 at HZ8 HF5 HS
    obtain ⟨S6, l6⟩ := q5
    dsimp only at HZ8 HF5
    have c0 : wc.cell? ⟨w.heap.size, 0, none⟩ = some (.int .i64 s.fr) := by rw [← HF5.out]; exact st_at HZ8.out.st 0
    have sf := HZ8.out.st.frozen
    go_upto_region 19 with fail
    obtain ⟨S7, HS7⟩ : ∃ S7, Hid (S7 = { S6 with fr := S6.fr + 1 }) := ⟨_, hid rfl⟩
    have HZ9 : Hid (Rz w (wc.setCell ⟨w.heap.size, 0, none⟩ (.int .i64 (s.fr + 1))) S7 a b v7 l6) := hid (by rw [HS7.out, ← HF5.out]; exact HZ8.out.sets rfl)
    generalize World.setCell wc _ _ = w19 at HZ9 ⊢
    clear c0 sf HZ8
    (try simp only [Act.put])
    go_step
    refine wpList_load_at rfl 35 _ rfl w.heap.size 0 rfl 35 _ (stC S7) (0, 0) _ HZ9.out.st Tryz.underlying35 rfl (by kernel_rfl) (stC_slf S7) ?_
    simp only [Act.put, pu1, pu2, pu3]
    go_step
    go_simp
    (rename_i hKK; refine hKK _ _ ?_)
    refine wpList_store_at rfl 35 _ _ rfl (w.heap.size + 1 + 1) 0 (stC S7) rfl rfl 35 _ HZ9.out.res (by kernel_rfl) (by show 60 ≤ 60; decide) rfl ?_
    (try simp only [Act.put])
    go_step
    go_simp
    (rename_i hKK2; refine hKK2 _ _ ?_)
    refine wpList_nil ?_
    refine ‹∀ (a : Act) (w : World), Code.wp Tryz.prog Code.ret _ a w → _› _ _ ?_
    refine wp_ret ?_
    obtain ⟨h1, h2, h3⟩ := HZ9.out.answer
    refine bodyPost_ret (results_cell_tmp rfl _ _ (w.heap.size + 1 + 1) 35 (stC S7).toArray (0, 0) _ rfl h1 Tryz.underlying35 rfl (by kernel_rfl)) rfl ?_
    have e : stepP s a b = (S7, l6) := by rw [HS.out, HS7.out]; rfl
    rw [e]
    exact ⟨_, rfl, h2, h3, HZ9.out.low⟩

end Go.Proofs.YtigjflacinlafaaGreatDoor.Gm
