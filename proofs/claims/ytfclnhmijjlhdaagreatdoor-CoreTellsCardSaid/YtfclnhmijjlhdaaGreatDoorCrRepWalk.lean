/- What Repair of a core answers and leaves: the walk (layer 15, core). -/
import Derived.Test.YtfclnhmijjlhdaaGreatDoorCrRepair
namespace Go.Proofs.YtfclnhmijjlhdaaGreatDoor.Cr
open Go.RowKit Go.Shelf
open Go.Proofs.YtfclnhmijjlhdaaGreatDoor.Rg
open Go.Proofs.YtfclnhmijjlhdaaGreatDoor.Fd (Fed takeM)
open Go.Proofs.YtfclnhmijjlhdaaGreatDoor.Gm (St stepP Ms Tab)
open Go.Proofs.YtfclnhmijjlhdaaGreatDoor.Ev (Ev Evs At bt br bal bd1 bdn flat flat_snoc)
open Go.Proofs.YtfclnhmijjlhdaaGreatDoor.Co (Co now common full other setN putAt putAt_len putAt_get play plays)
set_option linter.unusedVariables false
set_option maxRecDepth 100000
attribute [local go_sem] Oper.semAt_some
noncomputable def AP (ts : Array TypeId) (ty : TypeId) (args : Array Value) : Sem Value := Builtin.append_ ts ty args
theorem fold_ap (ts : Array TypeId) (ty : TypeId) (args : Array Value) : Builtin.append_ ts ty args = AP ts ty args := rfl
attribute [local go_sem ↓] fold_ap

theorem page_cells (w : World) (x y : Value) : ∀ j u, [x, y][j]? = some u → (w.alloc (.cells #[x, y] 51)).cell? ((⟨w.heap.size, 0, none⟩ : Addr).add j) = some u := by
 intro j u hj
 rw [Addr.add_lit, cell_of_row _ _ _ _ _ _ (At.new w #[x, y] 51), Nat.zero_add]
 simpa using hj
theorem ap_page (w : World) (n₀ : Nat) (v : Value) (n : Nat) (xs : List Value) (h : w.ownsRow n₀ 51 2 v n xs) (hn : n ≤ 1073741824) (hb : n₀ ≤ w.heap.size) (f : Int) (x : Option Addr) (y z : Nat) (ty : TypeId) :
 ∃ v' w', (AP #[46, 46] ty #[v, .slice (some ⟨w.heap.size, 0, none⟩) 1 1]).run Tryz.prog (w.alloc (.cells #[.int .i64 f, .slice x y z] 51)) = .ok v' w' ∧ w'.ownsRow n₀ 51 2 v' (n + 1) (xs ++ [.int .i64 f, .slice x y z]) ∧ (w.alloc (.cells #[.int .i64 f, .slice x y z] 51)).grownBy w' v.ownBlock ∧ (v'.ownBlock = v.ownBlock ∨ v'.ownBlock = some (w.heap.size + 1)) := by
 obtain ⟨i0, hi, hz0, hz1, hz2⟩ := info_parts info_page
 obtain ⟨v', w', h1, h2, h3, _, h5⟩ := run_append_own_at (P := Tryz.prog) (w := w.alloc (.cells #[.int .i64 f, .slice x y z] 51)) n₀ 46 ty 51 i0 (.agg #[.int .i64 0, .slice none 0 0]) 2 32 Tryz.underlying46 hi hz0 hz1 hz2 rfl (by decide) v n xs (h.alloc _) ⟨w.heap.size, 0, none⟩ 1 1 [.int .i64 f, .slice x y z] rfl (page_cells w _ _) (by simp [Value.oneCell']) (by unfold maxLen; omega) (by omega) (by rw [World.size_alloc]; omega)
 rw [World.size_alloc] at h5
 exact ⟨v', w', h1, h2, h3, h5⟩

section
variable {W W' : World} {n₀ b : Nat} {bf : Nat → Nat} {FF : Nat → Nat → Prop} {ao : Option Addr} {cap : Nat} {bs : Nat}
set_option maxHeartbeats 8000000 in
theorem repair_in {c : C} (h : CPc W n₀ b bf FF bs ao cap c) (hg : Gc c c) (hm : c.me < 2) (hb : c.S.length ≤ 1073741825) (hf : c.S.length ≤ c.first + 65) (hS : 0 < c.S.length)
 (hk : ∀ k, Fd.wrong (c.F (1 - c.me)) = some k → c.first ≤ k ∧ k < now c) (htab : Tab W) (hn2 : 2 ≤ n₀) {k N : Nat} (ek : kW (c.F (1 - c.me)) = k) (eN : nW (c.F (1 - c.me)) (now c) = N) :
 CallsIn Fence.wide 3 Tryz.prog 16 #[.pointer (some ⟨b, 0, none⟩)] W fun e W' => ∃ P B4 Bn v, e = .returned (.tuple #[v, .int .i64 0]) ∧ P.length = N ∧ P.map (·.1) = (List.range N).map (fun x => ((fAt k N x : Nat) : Int)) ∧
  Rz W (GG b FF bs ao) W' n₀ b bf bs W.heap.size B4 Bn (rpA c k N (List.range N)).1 (rpA c k N (List.range N)).2 P ∧ At W' B4 #[v] 46 := by
 have hkN : 0 < N → c.first ≤ k ∧ k + N + 1 = c.S.length := by
  intro h0
  unfold kW at ek
  unfold nW at eN
  cases hw : Fd.wrong (c.F (1 - c.me)) with
  | none => rw [hw] at eN; simp only at eN; omega
  | some q =>
   rw [hw] at eN ek
   simp only at eN ek
   obtain ⟨h1, h2⟩ := hk q hw
   unfold now at h2 eN
   omega
 have hNow : N ≤ 65 := by
  rcases Nat.eq_zero_or_pos N with e | e
  · omega
  · have := hkN e; omega
 have hbl := h.lt
 have hge := h.ge
 have hT2 : ∀ X, Keeps (GG b FF bs ao) W X → Tab X := fun X kx => htab.below hn2 (kx.below (by omega) h.gge)
 have HT := hid hT2
 obtain ⟨w0, hw0⟩ : ∃ w0, w0 = ((W.alloc (.cells #[.pointer (some ⟨b, 0, none⟩)] 27)).alloc (.cells #[.slice none 0 0] 46)).alloc (.cells #[.pointer (some ⟨b, 0, none⟩)] 27) := ⟨_, rfl⟩
 have hB0 : Below W.heap.size W w0 := by rw [hw0]; exact bal (bal (bal (br W) _) _) _
 have hr1 : At w0 W.heap.size #[.pointer (some ⟨b, 0, none⟩)] 27 := by rw [hw0]; exact ((At.new W _ _).more _).more _
 have hr2 : At w0 (W.heap.size + 1) #[.slice none 0 0] 46 := by rw [hw0]; exact (At.newAt _ _ _ (by rw [World.size_alloc])).more _
 have hr3 : At w0 (W.heap.size + 1 + 1) #[.pointer (some ⟨b, 0, none⟩)] 27 := by rw [hw0]; exact At.newAt _ _ _ (by rw [World.size_alloc, World.size_alloc])
 have cp0 := h.old hB0
 have hI0 : Rz W (GG b FF bs ao) w0 n₀ b bf bs W.heap.size (W.heap.size + 1) (W.heap.size + 1 + 1) c [] [] :=
  ⟨⟨FF, ao, cap, _, cp0, fun i hi => .inl hi, hr2, World.ownsRow_nil _ _ _ _, fun j p e hp => by simp at hp⟩, Keeps.ofOld hB0 _, hr1, hr3, by omega⟩
 have hcurb : now c ≤ 1073741825 := by unfold now; omega
 have hst := again_stops (n := 2) (by omega) (W.heap.size + 1 + 1) w0 cp0 hm hcurb (fun q hq => Nat.le_of_lt (hk q hq).2) hr3.lt hr3.one
 rw [ek, eN] at hst
 have HST := hid hst
 have HI := hid hI0
 have HkN := hid hkN
 have HB := hid hB0
 have hsz0 : w0.heap.size = W.heap.size + 1 + 1 + 1 := by rw [hw0, World.size_alloc, World.size_alloc, World.size_alloc]
 clear hk ek eN hst hI0 hT2 hr1 hr2 hr3 cp0 htab hkN
 refine callsIn_of_wp_marks Tryz.func16 rfl trivial ?_ rfl
 simp only [Tryz.ntmps16, List.size_toArray, List.length_cons, List.length_nil, Nat.reduceAdd, Nat.reduceSub, Array.replicate_succ, Array.replicate_zero, List.push_toArray, List.append_toArray, List.nil_append, List.cons_append]
 gi_wp2_with (refine ⟨trivial, ?_⟩; gi_at_call 53; refine (again_in _ _ ⟨_, rfl⟩ _).mono ?_; rintro e w' ⟨rfl, rfl⟩)
 rw [← hw0]
 refine wpIn_rangeFunc_ownG rfl (by omega) (gf := 87) (lb := #[.pointer (some ⟨W.heap.size + 1 + 1, 0, none⟩)]) rfl trivial (enters_of Tryz.func87 (by kernel_rfl) rfl)
  HST.out kc_t (kc_b (by omega) (by omega)) (Below.refl _ _) (fun _ => rfl)
  (fun pre X => ∃ P, Rz W (GG b FF bs ao) X n₀ b bf bs W.heap.size (W.heap.size + 1) (W.heap.size + 1 + 1) (rpA c k N pre).1 (rpA c k N pre).2 P ∧ P.map (·.1) = pre.map (fun x => ((fAt k N x : Nat) : Int)))
  (fun _ _ _ => False)
  (fun s X Y row hs g hr => by
   obtain ⟨P, h1, h2⟩ := hs
   exact ⟨P, h1.grown g (fun r e => ⟨by have := (hr r e).1; omega, (hr r e).2⟩), h2⟩)
  (fun _ _ _ _ _ hs _ _ => hs)
  ⟨[], HI.out, rfl⟩
  (fun x => { tmps := #[.pointer (some ⟨b, 0, none⟩), .pointer (some ⟨W.heap.size, 0, none⟩), .slice none 0 0, .int .i64 0, .pointer (some ⟨W.heap.size + 1, 0, none⟩), .int .i64 ((fAt k N x : Nat) : Int), .pointer (some ⟨b, 0, none⟩), .bool false, .pointer (some ⟨b, 0, none⟩), .func (.func 87) #[] #[.pointer (some ⟨W.heap.size + 1 + 1, 0, none⟩)], .int .i64 ((fAt k N x : Nat) : Int), undef, undef, undef, undef, undef, undef, undef], defers := [] }) ?assign ?body ?done ?stop
 case assign =>
  intro l x W K hK
  gi_wp2
  exact hK
 case body =>
  rintro l pre x X ⟨P, hR, hP⟩ hlt
  obtain ⟨h1, h2⟩ := HkN.out (by omega)
  have hgp := hg.rpA (k := k) (N := N) (by omega) (by omega) (by omega) pre
  have hEP : (rpA c k N pre).2.length = P.length := by rw [rpA_len]; have := congrArg List.length hP; simpa using this.symm
  have hPl : P.length = pre.length := by have := congrArg List.length hP; simpa using this
  obtain ⟨cc, hcc⟩ : ∃ cc, (rpA c k N pre).1 = cc := ⟨_, rfl⟩
  obtain ⟨EE, hEE⟩ : ∃ EE, (rpA c k N pre).2 = EE := ⟨_, rfl⟩
  rw [hcc] at hgp hR
  rw [hEE] at hEP hR
  have HCC := hid hcc
  have HEE := hid hEE
  obtain ⟨f, hff⟩ : ∃ f, fAt k N x = f := ⟨_, rfl⟩
  have hfb : c.first ≤ f ∧ f + 1 < c.S.length := by rw [← hff]; unfold fAt; omega
  have hmap : (P ++ [((f : Int), Value.slice none 0 0)]).length = P.length + 1 := by simp
  have HFF := hid hff
  rw [hff]
  obtain ⟨FF1, ao1, cap1, v, q1, q2, q3, q4, q5⟩ := hR.ex
  obtain ⟨ao4, cap4, rfl⟩ := row_form q4
  have cX := q3.one
  have cR := hR.rv.one
  have cpd := q1.old (bd1 (br X))
  have hpl := playc hgp hfb.1 hfb.2 hb hf (HT.out X.drew (keeps_mono hR.kp (Keeps.ofOld (bd1 (br X)) (fun _ => False)) (fun _ e => e.elim))) hn2 cpd
  have HPL := hid hpl
  have HR := hid hR
  have H1 := hid q1
  have H2 := hid q2
  have H3 := hid q3
  have H4 := hid q4
  have H5 := hid q5
  have HGp := hid hgp
  have HEP := hid hEP
  have HRD := hid (owns_keeps q4 (Keeps.ofOld (bd1 (br X)) (fun _ => False)) (fun _ _ e => e))
  have HPl := hid (show P.length ≤ 1073741824 by omega)
  have HPm := hid hP
  have hXs := hR.kp.size
  clear hPl hmap hcc hEE hff hpl hR q1 q2 q3 q4 q5 hgp hEP hP cpd HST HI
  gi_wp2
  have HAR := hid (fun (g : Nat) (hg : (Value.slice ao4 P.length cap4).ownBlock = some g) => (show ∃ cur, At X g cur 51 by
   rcases H4.out.2 with ⟨e', _⟩ | ⟨g', cap', cur, e', _, hgb, _⟩
   · rw [e'] at hg; cases hg
   · rw [e'] at hg
     simp [Value.ownBlock] at hg
     subst hg
     exact ⟨cur, hgb⟩))
  gi_region_with (refine ⟨trivial, ?_⟩; gi_at_call 54; refine (CallsIn.inRound l (callsIn_wide.2 HPL.out)).mono ?_; rintro e w1 ⟨x1, y1, z1, rfl, hev, ⟨FF2, ao2, cap2, k1, k2, k3, k4⟩, kd⟩; have hB41 := kd _ _ _ (H3.out.below (bd1 (br X))) (by decide); have cB1 := hB41.one; have cB2 : (w1.alloc (.cells #[.int .i64 f, .slice x1 y1 z1] 51)).cell? ⟨W.heap.size + 1, 0, none⟩ = some (.slice ao4 P.length cap4) := (hB41.more _).one; have hrow1 := owns_keeps HRD.out k3 (fun g hg => by obtain ⟨cur, hc⟩ := HAR.out g hg; exact H1.out.apart hc (by decide)); obtain ⟨v', w3, hrun, hown, hgr, hv'⟩ := ap_page w1 W.heap.size _ _ _ hrow1 HPl.out (by have := k3.size; have : X.drew.heap.size = X.heap.size := rfl; omega) f x1 y1 z1 46; obtain ⟨ao5, cap5, rfl⟩ := row_form hown; have hB43 := (Boxed.kept (hB41.more (.cells #[.int .i64 f, .slice x1 y1 z1] 51)) hgr (Boxed.not_row hB41 (by decide) hrow1)); have c43 : w3.cell? ⟨W.heap.size + 1, 0, none⟩ = some (.slice ao4 P.length cap4) := Boxed.cell hB43; have f43 : w3.frozen? ⟨W.heap.size + 1, 0, none⟩ = false := Boxed.frozen hB43)
  all_goals
   have HG := HGp.out
   have hnw := now_play HG (f := f) (by omega) (by omega)
   obtain ⟨m1, m2, m3⟩ := Rz.more (f := f) HR.out HEP.out H1.out H2.out H3.out H4.out H5.out hev k1 (fun i hi => k2 i hi) (keeps_mono (Keeps.ofOld (bd1 (br X)) (GG b FF1 bs ao1)) k3 (fun i hi => .inl hi)) k4 (Kd.trans (Kd.ofBelow (bd1 (br X))) kd) hown hgr hv' hnw
   exact ⟨m2.from _, m3, P ++ [((f : Int), .slice x1 y1 z1)], by rw [rpA_snoc]; unfold acc; rw [HCC.out, HEE.out, HFF.out]; exact m1, by rw [List.map_append, List.map_append, HPm.out]; simp [HFF.out]⟩
 case done =>
  rintro D ys X hD rfl ⟨P, hR, hP⟩ hK
  obtain ⟨FF1, ao1, cap1, v, q1, q2, q3, q4, q5⟩ := hR.ex
  obtain ⟨ao4, cap4, rfl⟩ := row_form q4
  have cX := q3.one
  have g := grownBy_putObj' X D (.deferred none)
  have hR2 := hR.grown g (fun r e => by cases e; exact ⟨by omega, _, hK, rfl⟩)
  have hB2 : At (X.putObj D (.deferred none)) (W.heap.size + 1) #[.slice ao4 P.length cap4] 46 := by
   unfold At
   rw [g.block _ q3.lt (fun e => by cases e; have := Eq.trans (Eq.symm hK) q3; cases this)]
   exact q3
  gi_wp2
  have hlen : P.length = N := by have := congrArg List.length hP; simpa using this
  refine ⟨by simp, .inl ⟨_, _, rfl, run_takeDeferred hK, ?_⟩⟩
  exact ⟨_, results_tmp2 rfl _ _ _, P, W.heap.size + 1, W.heap.size + 1 + 1, _, rfl, hlen, hP, hR2, hB2⟩
 case stop =>
  rintro D c pre W _ _ h _
  exact h.elim

/-- what Repair answers and leaves of a core of which the plain facts hold. -/
theorem repair_c {c : C} {s0 : St} {U : Nat → Nat → Int} (h : CPc W n₀ b bf FF bs ao cap c) (hI : Co.Inv stepP s0 c U) (hgd : Gd c.S) (hb : c.S.length ≤ 1073741825) (htab : Tab W) (hn2 : 2 ≤ n₀) :
 Calls Tryz.prog 16 #[.pointer (some ⟨b, 0, none⟩)] W fun e W' => ∃ (P : List (Int × Value)) (v : Value) (E : List (List Ev)), e = .returned (.tuple #[v, .int .i64 0]) ∧ P.length = E.length ∧
  (∀ (j : Nat) (p : Int × Value) (x : List Ev), P[j]? = some p → E[j]? = some x → ∃ f : Nat, p.1 = (f : Int) ∧ f < now c ∧ (Co.repairM stepP c).T[f]? = some x ∧ ∃ k, Fd.wrong (c.F (Co.other c)) = some k ∧ f = k + j) ∧
  (∀ k, Fd.wrong (c.F (Co.other c)) = some k → P.length = now c - k) ∧ (Fd.wrong (c.F (Co.other c)) = none → P.length = 0) ∧
  W'.ownsRow W.heap.size 51 2 v P.length (flat pcs P) ∧ Keeps (GG b FF bs ao) W W' ∧
  ∃ FF' ao' cap', CPc W' n₀ b bf FF' bs ao' cap' (Co.repairM stepP c) ∧ (∀ i, GG b FF' bs ao' i → GG b FF bs ao i ∨ W.heap.size ≤ i) ∧
   (∀ g, v.ownBlock = some g → ¬ GG b FF' bs ao' g) ∧
   ∀ (j : Nat) (p : Int × Value) (x : List Ev), P[j]? = some p → E[j]? = some x → Evs W' p.2 x ∧ ∀ g, p.2.ownBlock = some g → x ≠ [] → W.heap.size ≤ g ∧ ¬ GG b FF' bs ao' g := by
 have hlS := hI.lenS
 have hpos := hI.pos
 have hfew := hI.few
 have hg : Gc c c := ⟨⟨rfl, rfl, rfl, rfl⟩, rfl, hI.lenT, hgd, fun t ht => ⟨hI.ok t ht, hI.fst t ht⟩⟩
 have hoth : Co.other c = 1 - c.me := rfl
 have hk : ∀ k, Fd.wrong (c.F (1 - c.me)) = some k → c.first ≤ k ∧ k < now c := fun k hw => by
  obtain ⟨h1, h2, h3⟩ := hI.wrongLt (by rw [hoth]; exact hw)
  exact ⟨h3, h1⟩
 refine (callsIn_wide.1 (repair_in h hg hI.me2 hb (by omega) (by omega) hk htab hn2 rfl rfl)).mono ?_
 rintro e W' ⟨P, B4, Bn, v, rfl, hlen, hmap, hR, hB4⟩
 have hlE := rpA_len c (kW (c.F (1 - c.me))) (nW (c.F (1 - c.me)) (now c)) (List.range (nW (c.F (1 - c.me)) (now c)))
 rw [List.length_range] at hlE
 have hcore : (rpA c (kW (c.F (1 - c.me))) (nW (c.F (1 - c.me)) (now c)) (List.range (nW (c.F (1 - c.me)) (now c)))).1 = Co.repairM stepP c ∧ ∀ j, j < nW (c.F (1 - c.me)) (now c) → (rpA c (kW (c.F (1 - c.me))) (nW (c.F (1 - c.me)) (now c)) (List.range (nW (c.F (1 - c.me)) (now c)))).2[j]? = (Co.repairM stepP c).T[kW (c.F (1 - c.me)) + j]? := by
  unfold Co.repairM
  rw [hoth]
  cases hw : Fd.wrong (c.F (1 - c.me)) with
  | none =>
   have e1 : nW (c.F (1 - c.me)) (now c) = 0 := by unfold nW; rw [hw]
   rw [e1]
   exact ⟨rfl, fun j hj => by omega⟩
  | some k =>
   have e1 : nW (c.F (1 - c.me)) (now c) = now c - k := by unfold nW; rw [hw]
   have e2 : kW (c.F (1 - c.me)) = k := by unfold kW; rw [hw]
   rw [e1, e2]
   have := (hk k hw).2
   exact rpA_range hg (by omega) (now c - k) (Nat.le_refl _)
 obtain ⟨hc1, hc2⟩ := hcore
 obtain ⟨FF1, ao1, cap1, v1, q1, q2, q3, q4, q5⟩ := hR.ex
 have ev : v1 = v := by have := Eq.trans (Eq.symm q3) hB4; simpa using this
 subst ev
 rw [hc1] at q1
 refine ⟨P, v1, _, rfl, by rw [hlen, hlE], ?_, ?_, ?_, q4, hR.kp, FF1, ao1, cap1, q1, q2, ?_, fun j p x hp hx => ?_⟩
 · intro j p x hp hx
   have hj := (List.getElem?_eq_some_iff.1 hp).1
   rw [hlen] at hj
   have h1 := congrArg (fun l => l[j]?) hmap
   simp only [List.getElem?_map, hp, List.getElem?_range hj, Option.map_some, Option.some.injEq] at h1
   have hf : fAt (kW (c.F (1 - c.me))) (nW (c.F (1 - c.me)) (now c)) j = kW (c.F (1 - c.me)) + j := by unfold fAt; omega
   rw [hf] at h1
   cases hw : Fd.wrong (c.F (1 - c.me)) with
   | none =>
    have e1 : nW (c.F (1 - c.me)) (now c) = 0 := by unfold nW; rw [hw]
    omega
   | some k =>
    have e1 : nW (c.F (1 - c.me)) (now c) = now c - k := by unfold nW; rw [hw]
    have e2 : kW (c.F (1 - c.me)) = k := by unfold kW; rw [hw]
    refine ⟨kW (c.F (1 - c.me)) + j, h1, by omega, by rw [← hc2 j hj]; exact hx, k, by rw [hoth]; exact hw, by omega⟩
 · intro k hw
   rw [hoth] at hw
   rw [hlen]
   unfold nW
   rw [hw]
 · intro hw
   rw [hoth] at hw
   rw [hlen]
   unfold nW
   rw [hw]
 · intro g hg2
   rcases q4.2 with ⟨rfl, _⟩ | ⟨g', cap', cur, rfl, _, hgb, _⟩
   · cases hg2
   · simp [Value.ownBlock] at hg2
     subst hg2
     exact q1.apart hgb (by decide)
 · obtain ⟨h1, h2⟩ := q5 j p x hp hx
   exact ⟨h1, fun g hg2 hl => ⟨(h2 g hg2 hl).1, (h2 g hg2 hl).2.1⟩⟩
end
end Go.Proofs.YtfclnhmijjlhdaaGreatDoor.Cr
