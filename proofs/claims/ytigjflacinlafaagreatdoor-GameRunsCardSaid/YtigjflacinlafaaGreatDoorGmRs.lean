/- The document's Shot (layer 12, game). -/
import Derived.Test.YtigjflacinlafaaGreatDoorGmRd
import Derived.Deep.DeepCutAuto
import Derived.Deep.RegionWith
namespace Go.Proofs.YtigjflacinlafaaGreatDoor.Gm
open Go.RowKit Go.Proofs.YtigjflacinlafaaGreatDoor.Fx Go.Proofs.YtigjflacinlafaaGreatDoor.Tg Go.Proofs.YtigjflacinlafaaGreatDoor.Dc
open Go.Proofs.YtigjflacinlafaaGreatDoor.Ev (Ev Ky addR pageI At ecs Pg Evs)
open Go.Proofs.YtigjflacinlafaaGreatDoor.Sh (In32 vec box insideB touchB slI mvP mvV wallI)
set_option linter.unusedVariables false

theorem touch_back (a b r c d s : Int) (h : -4194304 ≤ a ∧ a ≤ 4194304) (h2 : -4194304 ≤ b ∧ b ≤ 4194304) (h3 : -4194304 ≤ c ∧ c ≤ 4194304) (h4 : -4194304 ≤ d ∧ d ≤ 4194304) : touchB c d s a b r = touchB a b r c d s := by
 unfold touchB nearB
 rw [sat_id (a - c) (by omega), sat_id (b - d) (by omega), sat_id (c - a) (by omega), sat_id (d - b) (by omega), show a - c = -(c - a) by omega, show b - d = -(d - b) by omega, show s + r = r + s by omega]
 unfold sqsI
 rw [Int.neg_mul_neg, Int.neg_mul_neg]
theorem inA_bd {x y : Int} (h : inA x y = true) : (-4194304 ≤ x ∧ x ≤ 4194304) ∧ (-4194304 ≤ y ∧ y ≤ 4194304) := by
 unfold inA insideB at h
 simp only [decide_eq_true_eq] at h
 omega
set_option maxHeartbeats 4000000 in
theorem stB_row (s : St) {k : Nat} (hk : k < 6) (x : Bu) : (List.take (24 + k * 6) (stC s) ++ buC x ++ List.drop (24 + k * 6 + 6) (stC s)).toArray = (stC (setS s k x)).toArray := by
 have hh : k = 0 ∨ k = 1 ∨ k = 2 ∨ k = 3 ∨ k = 4 ∨ k = 5 := by omega
 rcases hh with rfl | rfl | rfl | rfl | rfl | rfl <;> rfl
theorem buC_slf (x : Bu) : ∀ j v, (buC x)[j]? = some v → (buA x)[0 + j]? = some v := by
 intro j v h
 rw [Nat.zero_add]
 exact (List.getElem?_toArray).trans h
theorem plC_slf (x : Pl) : ∀ j v, (plC x)[j]? = some v → (plA x)[0 + j]? = some v := by
 intro j v h
 rw [Nat.zero_add]
 exact (List.getElem?_toArray).trans h
theorem stP_sc (s : St) {t : Nat} (ht : t < 2) : (stC s)[4 + t * 10 + 9]? = some (.int .i64 (plS s t).sc) := by
 have hh : t = 0 ∨ t = 1 := by omega
 rcases hh with rfl | rfl <;> rfl
theorem stP_set_sc (s : St) {t : Nat} (ht : t < 2) (n : Int) : (stC (setP s t { plS s t with sc := n })).toArray = (stC s).toArray.setIfInBounds (4 + t * 10 + 9) (.int .i64 n) := by
 have hh : t = 0 ∨ t = 1 := by omega
 rcases hh with rfl | rfl <;> rfl
theorem hit_two (S : St) {o : Nat} (ho : o < 2) (p : Pl) (n : Int) : setP (setP S (1 - o) { plS S (1 - o) with sc := n }) o p = setP (setP S o p) (1 - o) { plS S (1 - o) with sc := n } := by
 have hh : o = 0 ∨ o = 1 := by omega
 rcases hh with rfl | rfl <;> rfl

/-- the state and the shot that came in, the answer's own, the events till now. -/
structure Rs (w W : World) (s : St) (x : Bu) (v0 v : Value) (l : List Ev) : Prop where
 st : At W w.heap.size (stC s).toArray 35
 res : At W (w.heap.size + 1) (stC zeroS).toArray 35
 sh : At W (w.heap.size + 1 + 1) (buA x) 32
 ev : Evs W v l
 frv : Ev.Frv w W v0 v
 off : Off w.heap.size (w.heap.size + 1 + 1) v l
 old : Below w.heap.size w W
section
variable {w W W' : World} {s : St} {x : Bu} {p : Pl} {v0 v v' : Value} {l l' : List Ev} {N : Nat}
theorem frv_grow {u : World} (h : Ev.Frv w W v0 v) (e : W.heap.size ≤ u.heap.size) : Ev.Frv w u v0 v := by
 rcases h with h | h
 · exact .inl h
 · exact .inr fun k hk => ⟨(h k hk).1, Nat.lt_of_lt_of_le (h k hk).2 e⟩
theorem off_ne {a b : Nat} (h : Off a b v l) {k : Nat} (hk : a ≤ k ∧ k ≤ b) : l = [] ∨ ∀ i, v.ownBlock = some i → i ≠ k := by
 rcases h with e | e
 · exact .inl e
 · exact .inr fun i hi => by have := e i hi; omega
theorem Rs.below (h : Rs w W s x v0 v l) (g : Below W.heap.size W W') : Rs w W' s x v0 v l :=
 ⟨h.st.below g, h.res.below g, h.sh.below g, h.ev.below g, frv_grow h.frv g.size, h.off, Ev.bt h.old g⟩
/-- one field of the shot. -/
theorem Rs.setx (h : Rs w W s x v0 v l) {j : Nat} {u : Value} {x' : Bu} (e : buA x' = (buA x).setIfInBounds j u) : Rs w (W.setCell ⟨w.heap.size + 1 + 1, j, none⟩ u) s x' v0 v l :=
 ⟨h.st.far (by omega) u, h.res.far (by omega) u, by rw [e]; exact at_set h.sh j u, evs_setc h.ev (off_ne h.off ⟨by omega, by omega⟩) j u, frv_set h.frv (size_set _ _ _), h.off, h.old.setCell (p := ⟨w.heap.size + 1 + 1, j, none⟩) (by show w.heap.size ≤ w.heap.size + 1 + 1; omega) u⟩
/-- the state, whole. -/
theorem Rs.row (h : Rs w W s x v0 v l) (s' : St) : Rs w (W.setRow w.heap.size (stC s').toArray) s' x v0 v l :=
 ⟨at_row h.st _, at_row_far h.res (by omega) _, at_row_far h.sh (by omega) _, evs_setr h.ev (off_ne h.off ⟨by omega, by omega⟩) _, frv_set h.frv (size_row _ _ _), h.off, below_row h.old (Nat.le_refl _) _⟩
/-- one field of the state. -/
theorem Rs.sets (h : Rs w W s x v0 v l) {j : Nat} {u : Value} {s' : St} (e : (stC s').toArray = (stC s).toArray.setIfInBounds j u) : Rs w (W.setCell ⟨w.heap.size, j, none⟩ u) s' x v0 v l :=
 ⟨by rw [e]; exact at_set h.st j u, h.res.far (by omega) u, h.sh.far (by omega) u, evs_setc h.ev (off_ne h.off ⟨by omega, by omega⟩) j u, frv_set h.frv (size_set _ _ _), h.off, h.old.setCell (p := ⟨w.heap.size, j, none⟩) (Nat.le_refl _) u⟩
/-- behind what was told. -/
theorem Rs.told (h : Rs w W s x v0 v l) (hv : Evs W' v' l') (g : Below W.heap.size W W') (hf : Ev.Frv W W' v v') : Rs w W' s x v0 v' l' := by
 have h1 := h.below g
 refine ⟨h1.st, h1.res, h1.sh, hv, frv_trans h.frv hf h.old.size g.size, ?_, h1.old⟩
 rcases hf with rfl | hf
 · rcases h.off with e | e
   · left
     obtain ⟨a, L, cap, e1, h1, _⟩ := hv
     obtain ⟨a2, L2, cap2, e2, h2, _⟩ := h.ev
     rw [e1] at e2
     cases e2
     rw [e] at h2
     exact List.length_eq_zero_iff.1 (by rw [h1, ← h2]; rfl)
   · exact .inr e
 · exact .inr fun k hk => .inr (by have := (hf k hk).1; have := h.sh.lt; omega)
/-- the answer. -/
theorem Rs.answer (h : Rs w W s x v0 v l) : At (W.setRow (w.heap.size + 1) (stC s).toArray) (w.heap.size + 1) (stC s).toArray 35 ∧ Evs (W.setRow (w.heap.size + 1) (stC s).toArray) v l ∧ Below w.heap.size w (W.setRow (w.heap.size + 1) (stC s).toArray) ∧ Ev.Frv w (W.setRow (w.heap.size + 1) (stC s).toArray) v0 v :=
 ⟨at_row h.res _, evs_setr h.ev (off_ne h.off ⟨by omega, by omega⟩) _, below_row h.old (by omega) _, frv_set h.frv (size_row _ _ _)⟩
theorem rs_new (w : World) (s : St) (x : Bu) (v : Value) (l : List Ev) (h : Evs w v l) : Rs w (((w.alloc (.cells (stC s).toArray 35)).alloc (.cells (stC zeroS).toArray 35)).alloc (.cells (buA x) 32)) s x v v l := by
 have g : Below w.heap.size w (((w.alloc (.cells (stC s).toArray 35)).alloc (.cells (stC zeroS).toArray 35)).alloc (.cells (buA x) 32)) := Ev.bal (Ev.bal (Ev.bal (Ev.br w) _) _) _
 refine ⟨((At.new w _ _).more _).more _, (At.newAt _ _ _ (by simp)).more _, At.newAt _ _ _ (by simp), h.below g, .inl rfl, ?_, g⟩
 obtain ⟨a, L, cap, rfl, h1, _, _, h4⟩ := h
 by_cases hl : l = []
 · exact .inl hl
 · obtain ⟨b, o, rfl, hb, _⟩ := h4 (List.length_pos_iff.2 hl)
   refine .inr fun k hk => .inl ?_
   have : b = k := by simpa [Value.ownBlock] using hk
   omega
/-- and the player that was hit. -/
structure Rt (w W : World) (s : St) (x : Bu) (N : Nat) (p : Pl) (v0 v : Value) (l : List Ev) : Prop where
 rs : Rs w W s x v0 v l
 pl : At W N (plA p) 29
 far : w.heap.size + 1 + 1 < N
 offN : Off N N v l
theorem Rs.pl (h : Rs w W s x v0 v l) (p : Pl) : Rt w (W.alloc (.cells (plA p) 29)) s x W.heap.size p v0 v l := by
 refine ⟨h.below (Ev.bal (Ev.br W) _), At.new _ _ _, h.sh.lt, ?_⟩
 obtain ⟨a, L, cap, rfl, h1, _, _, h4⟩ := h.ev
 by_cases hl : l = []
 · exact .inl hl
 · obtain ⟨b, o, rfl, hb, _⟩ := h4 (List.length_pos_iff.2 hl)
   refine .inr fun k hk => .inl ?_
   have : b = k := by simpa [Value.ownBlock] using hk
   omega
theorem Rt.below (h : Rt w W s x N p v0 v l) (g : Below W.heap.size W W') : Rt w W' s x N p v0 v l := ⟨h.rs.below g, h.pl.below g, h.far, h.offN⟩
theorem Rt.setp (h : Rt w W s x N p v0 v l) {j : Nat} {u : Value} {p' : Pl} (e : plA p' = (plA p).setIfInBounds j u) : Rt w (W.setCell ⟨N, j, none⟩ u) s x N p' v0 v l := by
 have hN := h.far
 exact ⟨⟨h.rs.st.far (by omega) u, h.rs.res.far (by omega) u, h.rs.sh.far (by omega) u, evs_setc h.rs.ev (off_ne h.offN ⟨Nat.le_refl _, Nat.le_refl _⟩) j u, frv_set h.rs.frv (size_set _ _ _), h.rs.off, h.rs.old.setCell (p := ⟨N, j, none⟩) (by show w.heap.size ≤ N; omega) u⟩, by rw [e]; exact at_set h.pl j u, h.far, h.offN⟩
theorem Rt.sets (h : Rt w W s x N p v0 v l) {j : Nat} {u : Value} {s' : St} (e : (stC s').toArray = (stC s).toArray.setIfInBounds j u) : Rt w (W.setCell ⟨w.heap.size, j, none⟩ u) s' x N p v0 v l :=
 ⟨h.rs.sets e, h.pl.far (by have := h.far; omega) u, h.far, h.offN⟩
theorem Rt.row (h : Rt w W s x N p v0 v l) (s' : St) : Rt w (W.setRow w.heap.size (stC s').toArray) s' x N p v0 v l :=
 ⟨h.rs.row s', at_row_far h.pl (by have := h.far; omega) _, h.far, h.offN⟩
theorem Rt.told (h : Rt w W s x N p v0 v l) (hv : Evs W' v' l') (g : Below W.heap.size W W') (hf : Ev.Frv W W' v v') : Rt w W' s x N p v0 v' l' := by
 refine ⟨h.rs.told hv g hf, h.pl.below g, h.far, ?_⟩
 rcases hf with rfl | hf
 · rcases h.offN with e | e
   · left
     obtain ⟨a, L, cap, e1, h1, _⟩ := hv
     obtain ⟨a2, L2, cap2, e2, h2, _⟩ := h.rs.ev
     rw [e1] at e2
     cases e2
     rw [e] at h2
     exact List.length_eq_zero_iff.1 (by rw [h1, ← h2]; rfl)
   · exact .inr e
 · exact .inr fun k hk => .inr (by have := (hf k hk).1; have := h.pl.lt; omega)
end

set_option maxRecDepth 100000 in
set_option maxHeartbeats 8000000 in
theorem rshot_c (k : Nat) (hk : k < 6) (s : St) (v : Value) (l : List Ev) (w : World) (h : Evs w v l) (hi : pageI s.fr l) (hx : Mb (shS s k)) (ho : (shS s k).ow ≠ 0) (hp : ∀ o, o < 2 → Mp (plS s o)) :
 Calls Tryz.prog 20 #[.agg (stC s).toArray, v, .int .i64 k] w fun e w' => ∃ v', e = .returned (.tuple #[.agg (stC (flyP k (s, l)).1).toArray, v']) ∧ Evs w' v' (flyP k (s, l)).2 ∧ Below w.heap.size w w' ∧ Ev.Frv w w' v v' := by
 have HI := hid (stC_bt s k hk)
 have HRn := hid (fun x => rs_new w s x v l h)
 have HAn := hid ((At.new w (stC s).toArray 35).more (.cells (stC zeroS).toArray 35))
 have HFl : Hid (flyP k (s, l) = if (shS s k).li = 1 ∨ inA (onB (shS s k)).ax (onB (shS s k)).ay = false then (setS s k zeroB, l) else if hitsB s (onB (shS s k)) = true then hitP (othN (shS s k)) (setS s k zeroB, l) else (setS s k (onB (shS s k)), l)) := hid (if_neg ho)
 have HL := hid hi
 have HP := hid hp
 have hk0 : (0 : Int) ≤ (k : Int) := by omega
 have hk1 : (k : Int) < 6 := by omega
 have HSet := hid (fun S x => stB_row S hk x)
 generalize shS s k = x at HI hx ho HFl
 obtain ⟨ax, ay, vx, vy, ow, li⟩ := x
 have HR0 := hid (HRn.out ⟨ax, ay, vx, vy, ow, li⟩)
 obtain ⟨⟨t1, t2, t3, t4⟩, hz⟩ := hx
 have hob : (1 ≤ ow ∧ ow ≤ 2) ∧ (1 ≤ li ∧ li ≤ 40) := by
  rcases hz with e | e
  · exact absurd (congrArg Bu.ow e) ho
  · exact e
 obtain ⟨ho1, hl1⟩ := hob
 obtain ⟨m, hm⟩ : ∃ m, li = m + 1 := ⟨li - 1, by omega⟩
 subst hm
 have hm0 : 0 ≤ m ∧ m ≤ 39 := by omega
 clear HRn h hi hp ho hz hl1
 generalize hC : stC s = cs at HAn HR0
 go_enter Tryz.func20, Tryz.ntmps20
 go_upto_region 1 with fail
 generalize hw : World.alloc (World.alloc w _) _ = w0
 have HA0 : Hid (At w0 w.heap.size (stC s).toArray 35) := hid (by rw [← hw, hC]; exact HAn.out)
 have HR1 : Hid (Rs w (w0.alloc (.cells (buA ⟨ax, ay, vx, vy, ow, m + 1⟩) 32)) s ⟨ax, ay, vx, vy, ow, m + 1⟩ v v l) := hid (by rw [← hw]; exact HR0.out)
 have HZ : Hid (w0.heap.size = w.heap.size + 1 + 1) := hid (by rw [← hw]; simp)
 clear hw HAn HR0
 subst hC
 go_upto_region 2 with (refine wpList_load_at rfl 32 _ rfl w.heap.size (24 + k * 6) rfl 35 _ (buC ⟨ax, ay, vx, vy, ow, m + 1⟩) (0, 0) _ HA0.out Tryz.underlying32 rfl (by kernel_rfl) HI.out ?_)
 have hz : w0.heap.size = w.heap.size + 1 + 1 := HZ.out
 generalize World.alloc w0 _ = w1 at HR1 ⊢
 rw [hz]
 clear hz HZ HA0
 obtain ⟨b0, b1, b2, b3, b4, b5⟩ := at_bu (hid HR1.out.sh).out; (try dsimp only at b0 b1 b2 b3 b4 b5); have bf := ((hid HR1.out.sh).out).frozen
 go_upto_region 3 with fail
 have HR2 := hid (HR1.out.setx (j := 5) (u := .int .i64 m) (x' := ⟨ax, ay, vx, vy, ow, m⟩) rfl)
 generalize World.setCell w1 _ _ = w2 at HR2 ⊢
 clear b0 b1 b2 b3 b4 b5 bf
 clear HR1
 obtain ⟨b0, b1, b2, b3, b4, b5⟩ := at_bu (hid HR2.out.sh).out; (try dsimp only at b0 b1 b2 b3 b4 b5); have bf := ((hid HR2.out.sh).out).frozen
 have HPl := fun W => Sh.rplus_c ax ay vx vy t1 t2 t3 t4 W
 have hX32 : In32 (satI (ax + vx)) := sat_bd _
 have hY32 : In32 (satI (ay + vy)) := sat_bd _
 have HFl2 : Hid (flyP k (s, l) = if m = 0 ∨ inA (satI (ax + vx)) (satI (ay + vy)) = false then (setS s k zeroB, l) else if hitsB s ⟨satI (ax + vx), satI (ay + vy), vx, vy, ow, m⟩ = true then hitP (if ow = 1 then 1 else 0) (setS s k zeroB, l) else (setS s k ⟨satI (ax + vx), satI (ay + vy), vx, vy, ow, m⟩, l)) := hid (by
  have e : ((m + 1 = 1 : Prop)) = (m = 0) := propext ⟨fun h => by omega, fun h => by omega⟩
  have h := HFl.out
  dsimp only [onB, othN] at h
  rw [show m + 1 - 1 = m by omega] at h
  simp only [e] at h
  exact h)
 clear HFl
 generalize satI (ax + vx) = X at HPl hX32 HFl2
 generalize satI (ay + vy) = Y at HPl hY32 HFl2
 go_upto_region 4 with (go_at_call 39; ((with_reducible refine (HPl _).mono ?_); rintro e w3 ⟨rfl, g3⟩; have HR3 := hid (HR2.out.below g3); obtain ⟨b0, b1, b2, b3, b4, b5⟩ := at_bu (hid HR3.out.sh).out; (try dsimp only at b0 b1 b2 b3 b4 b5); have bf := ((hid HR3.out.sh).out).frozen))
 have HR4 := hid ((HR3.out.setx (j := 0) (u := .int .i32 X) (x' := ⟨X, ay, vx, vy, ow, m⟩) rfl).setx (j := 1) (u := .int .i32 Y) (x' := ⟨X, Y, vx, vy, ow, m⟩) rfl)
 generalize World.setCell (World.setCell w3 _ _) _ _ = w4 at HR4 ⊢
 clear b0 b1 b2 b3 b4 b5 bf
 clear HR2 HR3 HPl t1 t2 t3 t4 HI g3
 go_upto_region 5 with (refine wpList_store_at rfl 32 _ _ rfl w.heap.size (24 + k * 6) (buC zeroB) rfl rfl 35 _ HR4.out.st (by kernel_rfl) (by show 24 + k * 6 + 6 ≤ 60; omega) rfl ?_)
 rw [show (List.take (24 + k * 6) (stC s) ++ buC zeroB ++ List.drop (24 + k * 6 + (buC zeroB).length) (stC s)).toArray = (stC (setS s k zeroB)).toArray from HSet.out s zeroB]
 have HR5 := hid (HR4.out.row (setS s k zeroB))
 generalize World.setRow w4 _ _ = w5 at HR5 ⊢
 clear HR4
 obtain ⟨S, HS⟩ : ∃ S, Hid (S = setS s k zeroB) := ⟨_, hid rfl⟩
 have HSf : Hid (S.fr = s.fr ∧ ∀ o, plS S o = plS s o) := hid (by rw [HS.out]; exact ⟨(setS_keeps hk zeroB).1, fun o => (setS_pl hk zeroB o).1⟩)
 have HSb : Hid (∀ y, setS S k y = setS s k y) := hid (fun y => by
  rw [HS.out]
  have hh : k = 0 ∨ k = 1 ∨ k = 2 ∨ k = 3 ∨ k = 4 ∨ k = 5 := by omega
  rcases hh with rfl | rfl | rfl | rfl | rfl | rfl <;> rfl)
 rw [← HS.out] at HR5 HFl2
 by_cases hm : m = 0
 · subst hm
   have HA : Hid (flyP k (s, l) = (S, l)) := hid (by rw [HFl2.out, if_pos (.inl rfl)])
   go_upto_region 5 with fail
   have hK := hid (fun W (g : At W (w.heap.size + 1 + 1) (buA ⟨X, Y, vx, vy, ow, 0⟩) 32) => at_bu g)
   refine wp_region_noPanic ?_
   refine wp_region_held_drew (S := (fun W => At W (w.heap.size + 1 + 1) (buA ⟨X, Y, vx, vy, ow, 0⟩) 32)) (by kernel_rfl) HR5.out.sh.drew (fun hHeld => ?_)
   have HRz := hid (HR5.out.below (Ev.bd1 (Ev.br _)))
   generalize World.drew w5 = wz at HRz hHeld ⊢
   (refine tk 0 29 ?_ rfl rfl (by kernel_rfl) (by rfl) ?_ (by assumption) ?_)
   rotate_left
   · (intro W hSW; go_simp; (try with_reducible rfl))
   simp only [Act.put, pu1, pu2, pu3]
   (refine tk 1 30 ?_ rfl rfl (by kernel_rfl) (by rfl) ?_ (by assumption) ?_)
   rotate_left
   · (intro W hSW; have hSW2 := hK.out W hSW; go_simp; (try with_reducible rfl))
   simp only [Act.put, pu1, pu2, pu3]
   (refine tk 2 31 ?_ rfl rfl (by kernel_rfl) (by rfl) ?_ (by assumption) ?_)
   rotate_left
   · (intro W hSW; go_simp; (try with_reducible rfl))
   simp only [Act.put, pu1, pu2, pu3]
   (refine tk 3 32 ?_ rfl rfl (by kernel_rfl) (by rfl) ?_ (by assumption) ?_)
   rotate_left
   · (intro W hSW; go_simp; (try with_reducible rfl))
   simp only [Act.put, pu1, pu2, pu3]
   refine skipW (i := 4) (d := 33) rfl rfl (by kernel_rfl) (by kernel_rfl) (by kernel_rfl) (fun _ _ _ h => h) (by rfl) (by assumption) ?_
   simp only [Act.put, pu1, pu2, pu3]
   refine skipW (i := 5) (d := 34) rfl rfl (by kernel_rfl) (by kernel_rfl) (by kernel_rfl) (fun _ _ _ h => h) (by rfl) (by assumption) ?_
   simp only [Act.put, pu1, pu2, pu3]
   refine skipW (i := 6) (d := 35) rfl rfl (by kernel_rfl) (by kernel_rfl) (by kernel_rfl) (fun _ _ _ h => h) (by rfl) (by assumption) ?_
   simp only [Act.put, pu1, pu2, pu3]
   refine skipW (i := 7) (d := 36) rfl rfl (by kernel_rfl) (by kernel_rfl) (by kernel_rfl) (fun _ _ _ h => h) (by rfl) (by assumption) ?_
   simp only [Act.put, pu1, pu2, pu3]
   refine skipW (i := 8) (d := 37) rfl rfl (by kernel_rfl) (by kernel_rfl) (by kernel_rfl) (fun _ _ _ h => h) (by rfl) (by assumption) ?_
   simp only [Act.put, pu1, pu2, pu3]
   (refine tk 9 38 ?_ rfl rfl (by kernel_rfl) (by rfl) ?_ (by assumption) ?_)
   rotate_left
   · (intro W hSW; go_simp; (try with_reducible rfl))
   simp only [Act.put, pu1, pu2, pu3]
   refine wpAnyH_done (by kernel_rfl) ?_ _
   refine NoPanic.normal ?_
   clear hK
   go_wp2_with (first
    | (refine wpList_load_at rfl 35 _ rfl w.heap.size 0 rfl 35 _ (stC S) (0, 0) _ HRz.out.st Tryz.underlying35 rfl (by kernel_rfl) (stC_slf S) ?_)
    | (refine wpList_store_at rfl 35 _ _ rfl (w.heap.size + 1) 0 (stC S) rfl rfl 35 _ HRz.out.res (by kernel_rfl) (by show 60 ≤ 60; decide) rfl ?_))
   obtain ⟨h1, h2, h3, h4⟩ := HRz.out.answer
   refine bodyPost_ret (results_cell_tmp rfl _ _ (w.heap.size + 1) 35 (stC S).toArray (0, 0) _ rfl h1 Tryz.underlying35 rfl (by kernel_rfl)) rfl ?_
   rw [HA.out]
   exact ⟨_, rfl, h2, h3, h4⟩
 have hmb : (m == 0) = false := by simp [hm]
 cases hin : inA X Y
 · have HA : Hid (flyP k (s, l) = (S, l)) := hid (by rw [HFl2.out, if_pos (.inr hin)])
   have HIn : Hid (insideB (-4194304) (-4194304) 4194304 4194304 X Y = false) := hid hin
   clear hin
   go_upto_region 5 with fail
   have hK := hid (fun W (g : At W (w.heap.size + 1 + 1) (buA ⟨X, Y, vx, vy, ow, m⟩) 32) => at_bu g)
   refine wp_region_noPanic ?_
   refine wp_region_held_drew (S := (fun W => At W (w.heap.size + 1 + 1) (buA ⟨X, Y, vx, vy, ow, m⟩) 32)) (by kernel_rfl) HR5.out.sh.drew (fun hHeld => ?_)
   have HRz := hid (HR5.out.below (Ev.bd1 (Ev.br _)))
   generalize World.drew w5 = wz at HRz hHeld ⊢
   (refine tk 0 29 ?_ rfl rfl (by kernel_rfl) (by rfl) ?_ (by assumption) ?_)
   rotate_left
   · (intro W hSW; go_simp; (try with_reducible rfl))
   simp only [Act.put, pu1, pu2, pu3]
   (refine tk 1 30 ?_ rfl rfl (by kernel_rfl) (by rfl) ?_ (by assumption) ?_)
   rotate_left
   · (intro W hSW; have hSW2 := hK.out W hSW; go_simp; (try with_reducible rfl))
   simp only [Act.put, pu1, pu2, pu3]
   (refine tk 2 31 ?_ rfl rfl (by kernel_rfl) (by rfl) ?_ (by assumption) ?_)
   rotate_left
   · (intro W hSW; go_simp; (try with_reducible rfl))
   simp only [Act.put, pu1, pu2, pu3]
   (refine tk 3 32 ?_ rfl rfl (by kernel_rfl) (by rfl) ?_ (by assumption) ?_)
   rotate_left
   · (intro W hSW; go_simp; (try with_reducible rfl))
   simp only [Act.put, pu1, pu2, pu3]
   (refine tk 5 34 ?_ rfl rfl (by kernel_rfl) (by rfl) ?_ (by assumption) ?_)
   rotate_left
   · (intro W hSW; go_simp; (try with_reducible rfl))
   simp only [Act.put, pu1, pu2, pu3]
   (refine tk 6 35 ?_ rfl rfl (by kernel_rfl) (by rfl) ?_ (by assumption) ?_)
   rotate_left
   · (intro W hSW; have hSW2 := hK.out W hSW; go_simp; (try with_reducible rfl))
   simp only [Act.put, pu1, pu2, pu3]
   refine wpAnyH_ready (rs := [4]) (by kernel_rfl) (by simp) ?_
   refine AllReadyH.cons (i := 4) rfl (fun K hKK => ?_) AllReadyH.nil
   go_simp
   ((with_reducible refine (rbox64_c _).mono ?_); rintro e ww ⟨rfl, gg⟩; have HRy := hid (HRz.out.below gg); clear gg)
   (try dsimp only)
   refine hKK.out _ _ HRy.out.sh (fun hHeld => ?_)
   clear hKK K
   (try simp only [Act.put, pu1, pu2, pu3])
   refine wpAnyH_ready (rs := [7]) (by kernel_rfl) (by simp) ?_
   refine AllReadyH.cons (i := 7) rfl (fun K hKK => ?_) AllReadyH.nil
   go_simp
   ((with_reducible refine (Sh.rinside_c _ _ _ _ X Y _).mono ?_); rintro e w6 ⟨rfl, gg⟩; rw [HIn.out]; have HR6 := hid (HRy.out.below gg); clear gg)
   (try dsimp only)
   refine hKK.out _ _ HR6.out.sh (fun hHeld => ?_)
   clear hKK K
   (try simp only [Act.put, pu1, pu2, pu3])
   (refine tk 8 37 ?_ rfl rfl (by kernel_rfl) (by rfl) ?_ (by assumption) ?_)
   rotate_left
   · (intro W hSW; go_simp; (try with_reducible rfl))
   simp only [Act.put, pu1, pu2, pu3]
   (refine tk 9 38 ?_ rfl rfl (by kernel_rfl) (by rfl) ?_ (by assumption) ?_)
   rotate_left
   · (intro W hSW; go_simp; (try with_reducible rfl))
   simp only [Act.put, pu1, pu2, pu3]
   refine wpAnyH_done (by kernel_rfl) ?_ _
   refine NoPanic.normal ?_
   clear hK
   go_wp2_with (first
    | (refine wpList_load_at rfl 35 _ rfl w.heap.size 0 rfl 35 _ (stC S) (0, 0) _ HR6.out.st Tryz.underlying35 rfl (by kernel_rfl) (stC_slf S) ?_)
    | (refine wpList_store_at rfl 35 _ _ rfl (w.heap.size + 1) 0 (stC S) rfl rfl 35 _ HR6.out.res (by kernel_rfl) (by show 60 ≤ 60; decide) rfl ?_))
   obtain ⟨h1, h2, h3, h4⟩ := HR6.out.answer
   refine bodyPost_ret (results_cell_tmp rfl _ _ (w.heap.size + 1) 35 (stC S).toArray (0, 0) _ rfl h1 Tryz.underlying35 rfl (by kernel_rfl)) rfl ?_
   rw [HA.out]
   exact ⟨_, rfl, h2, h3, h4⟩
 obtain ⟨x12, y12⟩ := inA_bd hin
 have HIn : Hid (insideB (-4194304) (-4194304) 4194304 4194304 X Y = true) := hid hin
 have HFl3 : Hid (flyP k (s, l) = if hitsB s ⟨X, Y, vx, vy, ow, m⟩ = true then hitP (if ow = 1 then 1 else 0) (S, l) else (setS s k ⟨X, Y, vx, vy, ow, m⟩, l)) := hid (by
  rw [HFl2.out, if_neg]
  rintro (h | h)
  · exact hm h
  · rw [hin] at h
    cases h)
 clear hin HFl2
 go_upto_region 5 with fail
 have hK := hid (fun W (g : At W (w.heap.size + 1 + 1) (buA ⟨X, Y, vx, vy, ow, m⟩) 32) => at_bu g)
 refine wp_region_noPanic ?_
 refine wp_region_held_drew (S := (fun W => At W (w.heap.size + 1 + 1) (buA ⟨X, Y, vx, vy, ow, m⟩) 32)) (by kernel_rfl) HR5.out.sh.drew (fun hHeld => ?_)
 have HRz := hid (HR5.out.below (Ev.bd1 (Ev.br _)))
 generalize World.drew w5 = wz at HRz hHeld ⊢
 (refine tk 0 29 ?_ rfl rfl (by kernel_rfl) (by rfl) ?_ (by assumption) ?_)
 rotate_left
 · (intro W hSW; go_simp; (try with_reducible rfl))
 simp only [Act.put, pu1, pu2, pu3]
 (refine tk 1 30 ?_ rfl rfl (by kernel_rfl) (by rfl) ?_ (by assumption) ?_)
 rotate_left
 · (intro W hSW; have hSW2 := hK.out W hSW; go_simp; (try with_reducible rfl))
 simp only [Act.put, pu1, pu2, pu3]
 (refine tk 2 31 ?_ rfl rfl (by kernel_rfl) (by rfl) ?_ (by assumption) ?_)
 rotate_left
 · (intro W hSW; go_simp; (try with_reducible rfl))
 simp only [Act.put, pu1, pu2, pu3]
 (refine tk 3 32 ?_ rfl rfl (by kernel_rfl) (by rfl) ?_ (by assumption) ?_)
 rotate_left
 · (intro W hSW; go_simp; (try with_reducible rfl))
 simp only [Act.put, pu1, pu2, pu3]
 (refine tk 5 34 ?_ rfl rfl (by kernel_rfl) (by rfl) ?_ (by assumption) ?_)
 rotate_left
 · (intro W hSW; go_simp; (try with_reducible rfl))
 simp only [Act.put, pu1, pu2, pu3]
 (refine tk 6 35 ?_ rfl rfl (by kernel_rfl) (by rfl) ?_ (by assumption) ?_)
 rotate_left
 · (intro W hSW; have hSW2 := hK.out W hSW; go_simp; (try with_reducible rfl))
 simp only [Act.put, pu1, pu2, pu3]
 refine wpAnyH_ready (rs := [4]) (by kernel_rfl) (by simp) ?_
 refine AllReadyH.cons (i := 4) rfl (fun K hKK => ?_) AllReadyH.nil
 go_simp
 ((with_reducible refine (rbox64_c _).mono ?_); rintro e ww ⟨rfl, gg⟩; have HRy := hid (HRz.out.below gg); clear gg)
 (try dsimp only)
 refine hKK.out _ _ HRy.out.sh (fun hHeld => ?_)
 clear hKK K
 (try simp only [Act.put, pu1, pu2, pu3])
 refine wpAnyH_ready (rs := [7]) (by kernel_rfl) (by simp) ?_
 refine AllReadyH.cons (i := 7) rfl (fun K hKK => ?_) AllReadyH.nil
 go_simp
 ((with_reducible refine (Sh.rinside_c _ _ _ _ X Y _).mono ?_); rintro e w6 ⟨rfl, gg⟩; rw [HIn.out]; have HR6 := hid (HRy.out.below gg); clear gg)
 (try dsimp only)
 refine hKK.out _ _ HR6.out.sh (fun hHeld => ?_)
 clear hKK K
 (try simp only [Act.put, pu1, pu2, pu3])
 (refine tk 8 37 ?_ rfl rfl (by kernel_rfl) (by rfl) ?_ (by assumption) ?_)
 rotate_left
 · (intro W hSW; go_simp; (try with_reducible rfl))
 simp only [Act.put, pu1, pu2, pu3]
 (refine tk 9 38 ?_ rfl rfl (by kernel_rfl) (by rfl) ?_ (by assumption) ?_)
 rotate_left
 · (intro W hSW; go_simp; (try with_reducible rfl))
 simp only [Act.put, pu1, pu2, pu3]
 refine wpAnyH_done (by kernel_rfl) ?_ _
 refine NoPanic.normal ?_
 clear hK
 obtain ⟨b0, b1, b2, b3, b4, b5⟩ := at_bu (hid HR6.out.sh).out; (try dsimp only at b0 b1 b2 b3 b4 b5); have bf := ((hid HR6.out.sh).out).frozen
 go_upto_if 43 with fail
 go_cut [9] (fun s9 wx => s9 = .int .i64 ((if ow = 1 then 1 else 0 : Nat) : Int) ∧ w6 = wx)
 case first =>
  have hoo : ow = 1 ∨ ow = 2 := by omega
  rcases hoo with rfl | rfl
  · go_wp2_with fail
    go_meet
    case rel => exact ⟨rfl, rfl⟩
  · go_wp2_with fail
    go_meet
    case rel => exact ⟨rfl, rfl⟩
 case rest =>
  obtain ⟨rfl, rfl⟩ := hcut
  clear b0 b1 b2 b3 b4 b5 bf
  have HFl4 : Hid (flyP k (s, l) = if hitsB s ⟨X, Y, vx, vy, ow, m⟩ = true then hitP (if ow = 1 then 1 else 0) (S, l) else (setS s k ⟨X, Y, vx, vy, ow, m⟩, l)) := HFl3
  have HHit : Hid (hitsB s ⟨X, Y, vx, vy, ow, m⟩ = (decide ((plS s (if ow = 1 then 1 else 0)).dn = 0) && touchB (plS s (if ow = 1 then 1 else 0)).ax (plS s (if ow = 1 then 1 else 0)).ay 262144 X Y 65536)) := hid rfl
  clear HFl3
  have ho2 : (if ow = 1 then 1 else 0 : Nat) < 2 := by split <;> decide
  generalize (if ow = 1 then 1 else 0 : Nat) = o at HFl4 HHit ho2 ⊢
  have hoa : (0 : Int) ≤ (o : Int) := by omega
  have hob : (o : Int) < 2 := by omega
  have HIp := hid (stC_pt S o ho2)
  have HMp := hid (HP.out o ho2)
  rw [HSf.out.2 o] at HIp
  have HSp := hid (HSf.out.2 o)
  generalize plS s o = p at HIp HMp HHit HSp
  go_upto_region 11 with (refine wpList_load_at rfl 29 _ rfl w.heap.size (4 + o * 10) rfl 35 _ (plC p) (0, 0) _ HR6.out.st Tryz.underlying29 rfl (by kernel_rfl) HIp.out ?_)
  have HT1 := hid (HR6.out.pl p)
  generalize World.alloc w6 _ = w7 at HT1 ⊢
  generalize w6.heap.size = N at HT1 ⊢
  clear HIp HR6
  obtain ⟨b0, b1, b2, b3, b4, b5⟩ := at_bu (hid HT1.out.rs.sh).out; (try dsimp only at b0 b1 b2 b3 b4 b5); have bf := ((hid HT1.out.rs.sh).out).frozen
  obtain ⟨p0, p1, p2, p3, p4, p5, p6, p7, p8, p9⟩ := at_pl (hid HT1.out.pl).out; (try dsimp only at p0 p1 p2 p3 p4 p5 p6 p7 p8 p9); have pf := ((hid HT1.out.pl).out).frozen
  have hdb := HMp.out.dn
  by_cases hd : p.dn = 0
  case neg =>
   have hd2 : 0 < p.dn := by omega
   have HA : Hid (flyP k (s, l) = (setS s k ⟨X, Y, vx, vy, ow, m⟩, l)) := hid (by rw [HFl4.out, HHit.out, decide_eq_false hd]; rfl)
   go_upto_region 13 with (first
    | (refine wpList_load_at rfl 32 _ rfl (w.heap.size + 1 + 1) 0 rfl 32 _ (buC ⟨X, Y, vx, vy, ow, m⟩) (0, 0) _ HT1.out.rs.sh Tryz.underlying32 rfl (by kernel_rfl) (buC_slf _) ?_)
    | (refine wpList_store_at rfl 32 _ _ rfl w.heap.size (24 + k * 6) (buC ⟨X, Y, vx, vy, ow, m⟩) rfl rfl 35 _ HT1.out.rs.st (by kernel_rfl) (by show 24 + k * 6 + 6 ≤ 60; omega) rfl ?_))
   rw [show (List.take (24 + k * 6) (stC S) ++ buC ⟨X, Y, vx, vy, ow, m⟩ ++ List.drop (24 + k * 6 + (buC ⟨X, Y, vx, vy, ow, m⟩).length) (stC S)).toArray = (stC (setS s k ⟨X, Y, vx, vy, ow, m⟩)).toArray from (HSet.out S _).trans (by rw [HSb.out])]
   have HT9 := hid (HT1.out.row (setS s k ⟨X, Y, vx, vy, ow, m⟩))
   generalize World.setRow w7 _ _ = w9 at HT9 ⊢
   clear HT1
   go_wp2_with (first
    | (refine wpList_load_at rfl 35 _ rfl w.heap.size 0 rfl 35 _ (stC (setS s k ⟨X, Y, vx, vy, ow, m⟩)) (0, 0) _ HT9.out.rs.st Tryz.underlying35 rfl (by kernel_rfl) (stC_slf (setS s k ⟨X, Y, vx, vy, ow, m⟩)) ?_)
    | (refine wpList_store_at rfl 35 _ _ rfl (w.heap.size + 1) 0 (stC (setS s k ⟨X, Y, vx, vy, ow, m⟩)) rfl rfl 35 _ HT9.out.rs.res (by kernel_rfl) (by show 60 ≤ 60; decide) rfl ?_))
   obtain ⟨h1, h2, h3, h4⟩ := HT9.out.rs.answer
   refine bodyPost_ret (results_cell_tmp rfl _ _ (w.heap.size + 1) 35 (stC (setS s k ⟨X, Y, vx, vy, ow, m⟩)).toArray (0, 0) _ rfl h1 Tryz.underlying35 rfl (by kernel_rfl)) rfl ?_
   rw [HA.out]
   exact ⟨_, rfl, h2, h3, h4⟩
  have pd : w7.cell? ⟨N, 8, none⟩ = some (.int .i64 0) := by rw [← hd]; exact p8
  have HD := hid hd
  clear p8 hd
  have HTc := fun W => Sh.rtouch_c X Y 65536 p.ax p.ay 262144 hX32 hY32 (by decide) (in32_of HMp.out.ax) (in32_of HMp.out.ay) (by decide) W
  rw [← touch_back X Y 65536 p.ax p.ay 262144 x12 y12 HMp.out.ax HMp.out.ay] at HTc
  cases hto : touchB p.ax p.ay 262144 X Y 65536
  · have HA : Hid (flyP k (s, l) = (setS s k ⟨X, Y, vx, vy, ow, m⟩, l)) := hid (by rw [HFl4.out, HHit.out, hto, Bool.and_false]; rfl)
    rw [hto] at HTc
    go_upto_region 12 with (go_at_call 18; ((with_reducible refine (HTc _).mono ?_); rintro e w8 ⟨rfl, g8⟩; have HT2 := hid (HT1.out.below g8)))
    clear b0 b1 b2 b3 b4 b5 bf
    clear p0 p1 p2 p3 p4 p5 p6 p7 p9 pf pd HT1 HTc hto
    go_upto_region 13 with (first
     | (refine wpList_load_at rfl 32 _ rfl (w.heap.size + 1 + 1) 0 rfl 32 _ (buC ⟨X, Y, vx, vy, ow, m⟩) (0, 0) _ HT2.out.rs.sh Tryz.underlying32 rfl (by kernel_rfl) (buC_slf _) ?_)
     | (refine wpList_store_at rfl 32 _ _ rfl w.heap.size (24 + k * 6) (buC ⟨X, Y, vx, vy, ow, m⟩) rfl rfl 35 _ HT2.out.rs.st (by kernel_rfl) (by show 24 + k * 6 + 6 ≤ 60; omega) rfl ?_))
    rw [show (List.take (24 + k * 6) (stC S) ++ buC ⟨X, Y, vx, vy, ow, m⟩ ++ List.drop (24 + k * 6 + (buC ⟨X, Y, vx, vy, ow, m⟩).length) (stC S)).toArray = (stC (setS s k ⟨X, Y, vx, vy, ow, m⟩)).toArray from (HSet.out S _).trans (by rw [HSb.out])]
    have HT9 := hid (HT2.out.row (setS s k ⟨X, Y, vx, vy, ow, m⟩))
    generalize World.setRow w8 _ _ = w9 at HT9 ⊢
    clear HT2
    go_wp2_with (first
     | (refine wpList_load_at rfl 35 _ rfl w.heap.size 0 rfl 35 _ (stC (setS s k ⟨X, Y, vx, vy, ow, m⟩)) (0, 0) _ HT9.out.rs.st Tryz.underlying35 rfl (by kernel_rfl) (stC_slf (setS s k ⟨X, Y, vx, vy, ow, m⟩)) ?_)
     | (refine wpList_store_at rfl 35 _ _ rfl (w.heap.size + 1) 0 (stC (setS s k ⟨X, Y, vx, vy, ow, m⟩)) rfl rfl 35 _ HT9.out.rs.res (by kernel_rfl) (by show 60 ≤ 60; decide) rfl ?_))
    obtain ⟨h1, h2, h3, h4⟩ := HT9.out.rs.answer
    refine bodyPost_ret (results_cell_tmp rfl _ _ (w.heap.size + 1) 35 (stC (setS s k ⟨X, Y, vx, vy, ow, m⟩)).toArray (0, 0) _ rfl h1 Tryz.underlying35 rfl (by kernel_rfl)) rfl ?_
    rw [HA.out]
    exact ⟨_, rfl, h2, h3, h4⟩
  · have HH : Hid (flyP k (s, l) = hitP o (S, l)) := hid (by rw [HFl4.out, HHit.out, hto, HD.out]; rfl)
    rw [hto] at HTc
    go_upto_region 14 with (go_at_call 18; ((with_reducible refine (HTc _).mono ?_); rintro e w8 ⟨rfl, g8⟩; have HT2 := hid (HT1.out.below g8)))
    clear b0 b1 b2 b3 b4 b5 bf
    clear p0 p1 p2 p3 p4 p5 p6 p7 p9 pf pd HT1 HTc hto HFl4 HHit
    obtain ⟨h, hh⟩ : ∃ h, p.hp = h + 1 := ⟨p.hp - 1, by omega⟩
    have hhb : 0 ≤ h ∧ h ≤ 2 := by
     have h1 := HMp.out.hp
     have h2 := HMp.out.up HD.out
     omega
    have HHp := hid hh
    obtain ⟨p0, p1, p2, p3, p4, p5, p6, p7, p8, p9⟩ := at_pl (hid HT2.out.pl).out; (try dsimp only at p0 p1 p2 p3 p4 p5 p6 p7 p8 p9); have pf := ((hid HT2.out.pl).out).frozen
    rw [hh] at p5
    clear hh
    go_upto_region 15 with fail
    have HT3 := hid (HT2.out.setp (j := 5) (p' := { p with hp := h }) (u := .int .i64 h) rfl)
    generalize World.setCell w8 _ _ = w9 at HT3 ⊢
    clear p0 p1 p2 p3 p4 p5 p6 p7 p8 p9 pf
    clear HT2
    obtain ⟨p0, p1, p2, p3, p4, p5, p6, p7, p8, p9⟩ := at_pl (hid HT3.out.pl).out; (try dsimp only at p0 p1 p2 p3 p4 p5 p6 p7 p8 p9); have pf := ((hid HT3.out.pl).out).frozen
    have c0 : w9.cell? ⟨w.heap.size, 0, none⟩ = some (.int .i64 s.fr) := by rw [← HSf.out.1]; exact st_at HT3.out.rs.st 0
    have HTold : Hid (∀ W, Evs W v l → Calls Tryz.prog 19 #[v, .int .i64 s.fr, .int .i64 ((o : Int) + 1), .int .i64 2, .int .i64 32768, .int .i64 8, .int .i64 0, .int .i32 p.ax] W fun r w' => ∃ v', r = .returned v' ∧ Evs w' v' (tel s.fr l ((o : Int) + 1) 2 p.ax) ∧ Below W.heap.size W w' ∧ Ev.Frv W w' v v') := hid (fun W hv => rtold_c 2 (by decide) (by decide) v l s.fr ((o : Int) + 1) p.ax W hv HL.out.2.2.1 ⟨by omega, by omega⟩ HMp.out.ax)
    have HTold2 : Hid (∀ W v', Evs W v' (tel s.fr l ((o : Int) + 1) 2 p.ax) → Calls Tryz.prog 19 #[v', .int .i64 s.fr, .int .i64 ((o : Int) + 1), .int .i64 5, .int .i64 32768, .int .i64 10, .int .i64 0, .int .i32 p.ax] W fun r w' => ∃ v'', r = .returned v'' ∧ Evs w' v'' (tel s.fr (tel s.fr l ((o : Int) + 1) 2 p.ax) ((o : Int) + 1) 5 p.ax) ∧ Below W.heap.size W w' ∧ Ev.Frv W w' v' v'') := hid (fun W v' hv => rtold_c 5 (by decide) (by decide) v' _ s.fr ((o : Int) + 1) p.ax W hv (tel_inv HL.out _ _ _).2.2.1 ⟨by omega, by omega⟩ HMp.out.ax)
    go_upto_region 16 with (go_at_call 19; ((with_reducible refine (HTold.out _ HT3.out.rs.ev).mono ?_); rintro e w10 ⟨v1, rfl, hv, g10, hf⟩; have HT4 := hid (HT3.out.told hv g10 hf); clear hv g10 hf))
    clear p0 p1 p2 p3 p4 p5 p6 p7 p8 p9 pf
    clear c0 HT3 HTold
    obtain ⟨p0, p1, p2, p3, p4, p5, p6, p7, p8, p9⟩ := at_pl (hid HT4.out.pl).out; (try dsimp only at p0 p1 p2 p3 p4 p5 p6 p7 p8 p9); have pf := ((hid HT4.out.pl).out).frozen
    by_cases hz : h = 0
    case neg =>
     have hzb : (h == 0) = false := by simp [hz]
     have HA : Hid (flyP k (s, l) = (setP S o { p with hp := h }, tel s.fr l ((o : Int) + 1) 2 p.ax)) := hid (by
      rw [HH.out]
      unfold hitP
      rw [if_neg (by dsimp only; rw [HSp.out, HHp.out]; omega)]
      dsimp only
      rw [HSp.out, HSf.out.1, HHp.out, show h + 1 - 1 = h by omega])
     go_upto_region 21 with (first
      | (refine wpList_load_at rfl 29 _ rfl N 0 rfl 29 _ (plC { p with hp := h }) (0, 0) _ HT4.out.pl Tryz.underlying29 rfl (by kernel_rfl) (plC_slf _) ?_)
      | (refine wpList_store_at rfl 29 _ _ rfl w.heap.size (4 + o * 10) (plC { p with hp := h }) rfl rfl 35 _ HT4.out.rs.st (by kernel_rfl) (by show 4 + o * 10 + 10 ≤ 60; omega) rfl ?_))
     rw [show (List.take (4 + o * 10) (stC S) ++ plC { p with hp := h } ++ List.drop (4 + o * 10 + (plC { p with hp := h }).length) (stC S)).toArray = (stC (setP S o { p with hp := h })).toArray from stP_row S ho2 _]
     have HT5 := hid (HT4.out.row (setP S o { p with hp := h }))
     generalize World.setRow w10 _ _ = w14 at HT5 ⊢
     clear HT4
     go_wp2_with (first
      | (refine wpList_load_at rfl 35 _ rfl w.heap.size 0 rfl 35 _ (stC (setP S o { p with hp := h })) (0, 0) _ HT5.out.rs.st Tryz.underlying35 rfl (by kernel_rfl) (stC_slf (setP S o { p with hp := h })) ?_)
      | (refine wpList_store_at rfl 35 _ _ rfl (w.heap.size + 1) 0 (stC (setP S o { p with hp := h })) rfl rfl 35 _ HT5.out.rs.res (by kernel_rfl) (by show 60 ≤ 60; decide) rfl ?_))
     obtain ⟨h1, h2, h3, h4⟩ := HT5.out.rs.answer
     refine bodyPost_ret (results_cell_tmp rfl _ _ (w.heap.size + 1) 35 (stC (setP S o { p with hp := h })).toArray (0, 0) _ rfl h1 Tryz.underlying35 rfl (by kernel_rfl)) rfl ?_
     rw [HA.out]
     exact ⟨_, rfl, h2, h3, h4⟩
    case pos =>
     subst hz
     go_upto_region 18 with fail
     have HT5 := hid (HT4.out.setp (j := 8) (p' := { p with hp := 0, dn := 30 }) (u := .int .i64 30) rfl)
     generalize World.setCell w10 _ _ = w11 at HT5 ⊢
     clear p0 p1 p2 p3 p4 p5 p6 p7 p8 p9 pf
     clear HT4
     obtain ⟨r, hr⟩ : ∃ r : Nat, r = 1 - o := ⟨_, rfl⟩
     have hr1 : r < 2 := by omega
     have hra : (0 : Int) ≤ (r : Int) := by omega
     have hrb : (r : Int) < 2 := by omega
     have hro : (1 : Int) - (o : Int) = (r : Int) := by omega
     have HRo := hid hr
     clear hr
     have cs : w11.cell? ⟨w.heap.size, 4 + r * 10 + 9, none⟩ = some (.int .i64 (plS S r).sc) := (st_at HT5.out.rs.st _).trans (stP_sc S hr1)
     have cf := HT5.out.rs.st.frozen
     have hsc : -1000000 ≤ (plS S r).sc ∧ (plS S r).sc ≤ 1000000 := by rw [HSf.out.2 r]; have := (HP.out r hr1).sc; omega
     have HSs := hid (fun n => stP_set_sc S hr1 n)
     obtain ⟨S2, HS2⟩ : ∃ S2, Hid (S2 = setP S r { plS S r with sc := (plS S r).sc + 1 }) := ⟨_, hid rfl⟩
     have HA : Hid (flyP k (s, l) = (setP S2 o { p with hp := 0, dn := 30 }, tel s.fr (tel s.fr l ((o : Int) + 1) 2 p.ax) ((o : Int) + 1) 5 p.ax)) := hid (by
      rw [HH.out]
      unfold hitP
      rw [if_pos (by dsimp only; rw [HSp.out, HHp.out]; rfl)]
      dsimp only
      rw [HSp.out, HSf.out.1, HS2.out, HRo.out, hit_two S ho2])
     go_upto_region 19 with fail
     have HT6 := hid (HT5.out.sets (s' := S2) (j := 4 + r * 10 + 9) (u := .int .i64 ((plS S r).sc + 1)) (by rw [HS2.out]; exact HSs.out _))
     generalize World.setCell w11 _ _ = w12 at HT6 ⊢
     have HSf2 : Hid (S2.fr = s.fr) := hid (by rw [HS2.out, (setP_keeps S r _).1]; exact HSf.out.1)
     clear cs cf hsc hro HT5 HSs
     obtain ⟨p0, p1, p2, p3, p4, p5, p6, p7, p8, p9⟩ := at_pl (hid HT6.out.pl).out; (try dsimp only at p0 p1 p2 p3 p4 p5 p6 p7 p8 p9); have pf := ((hid HT6.out.pl).out).frozen
     have c0 : w12.cell? ⟨w.heap.size, 0, none⟩ = some (.int .i64 s.fr) := by rw [← HSf2.out]; exact st_at HT6.out.rs.st 0
     go_upto_region 20 with (go_at_call 19; ((with_reducible refine (HTold2.out _ _ HT6.out.rs.ev).mono ?_); rintro e w13 ⟨v2, rfl, hv, g13, hf⟩; have HT7 := hid (HT6.out.told hv g13 hf); clear hv g13 hf))
     clear p0 p1 p2 p3 p4 p5 p6 p7 p8 p9 pf
     clear c0 HT6 HTold2 HS2
     go_upto_region 21 with (first
      | (refine wpList_load_at rfl 29 _ rfl N 0 rfl 29 _ (plC { p with hp := 0, dn := 30 }) (0, 0) _ HT7.out.pl Tryz.underlying29 rfl (by kernel_rfl) (plC_slf _) ?_)
      | (refine wpList_store_at rfl 29 _ _ rfl w.heap.size (4 + o * 10) (plC { p with hp := 0, dn := 30 }) rfl rfl 35 _ HT7.out.rs.st (by kernel_rfl) (by show 4 + o * 10 + 10 ≤ 60; omega) rfl ?_))
     rw [show (List.take (4 + o * 10) (stC S2) ++ plC { p with hp := 0, dn := 30 } ++ List.drop (4 + o * 10 + (plC { p with hp := 0, dn := 30 }).length) (stC S2)).toArray = (stC (setP S2 o { p with hp := 0, dn := 30 })).toArray from stP_row S2 ho2 _]
     have HT8 := hid (HT7.out.row (setP S2 o { p with hp := 0, dn := 30 }))
     generalize World.setRow w13 _ _ = w14 at HT8 ⊢
     clear HT7
     go_wp2_with (first
      | (refine wpList_load_at rfl 35 _ rfl w.heap.size 0 rfl 35 _ (stC (setP S2 o { p with hp := 0, dn := 30 })) (0, 0) _ HT8.out.rs.st Tryz.underlying35 rfl (by kernel_rfl) (stC_slf (setP S2 o { p with hp := 0, dn := 30 })) ?_)
      | (refine wpList_store_at rfl 35 _ _ rfl (w.heap.size + 1) 0 (stC (setP S2 o { p with hp := 0, dn := 30 })) rfl rfl 35 _ HT8.out.rs.res (by kernel_rfl) (by show 60 ≤ 60; decide) rfl ?_))
     obtain ⟨h1, h2, h3, h4⟩ := HT8.out.rs.answer
     refine bodyPost_ret (results_cell_tmp rfl _ _ (w.heap.size + 1) 35 (stC (setP S2 o { p with hp := 0, dn := 30 })).toArray (0, 0) _ rfl h1 Tryz.underlying35 rfl (by kernel_rfl)) rfl ?_
     rw [HA.out]
     exact ⟨_, rfl, h2, h3, h4⟩

end Go.Proofs.YtigjflacinlafaaGreatDoor.Gm
