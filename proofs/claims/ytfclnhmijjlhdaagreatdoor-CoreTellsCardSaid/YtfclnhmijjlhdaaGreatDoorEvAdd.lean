/- One more event on a page (layer 11, event). -/
import Derived.Test.YtfclnhmijjlhdaaGreatDoorJ7
import Derived.Deep.Cut
namespace Go.Proofs.YtfclnhmijjlhdaaGreatDoor.Ev
open Go.RowKit
open Go.Proofs.YtfclnhmijjlhdaaGreatDoor.Rg hiding hid
set_option linter.unusedVariables false

theorem results_key {fn : Func} (h : fn.results = #[.cell 4 118, .tmp 5]) (tmps : Array Value) (W : World) (b : Nat) (hp : tmps[4]?.getD undef = .pointer (some ⟨b, 0, none⟩)) (k : Ky) (hA : At W b #[.int .i64 k.f, .int .i64 k.e, .int .i64 k.k, .int .i64 k.o] 118) :
 (results fn tmps).run Tryz.prog W = .ok (.tuple #[kv k, tmps.getD 5 undef]) W := by
 obtain ⟨c0, c1, c2, c3⟩ := hA.four
 simp [results, h, hp, go_sem, c0, c1, c2, c3]

/-- the memory of Add: the event's own, the answer's own, the page. -/
structure Mid (w W : World) (n₀ b : Nat) (fr : Int) (ao : Option Addr) (cap : Nat) (l : List Ev) (x : Ev) : Prop where
 ev : At W w.heap.size #[.int .i64 x.key.f, .int .i64 x.key.e, .int .i64 x.key.k, .int .i64 x.key.o, .int .i64 x.a, .int .i64 x.g, .int .i64 x.p, .int .i64 x.r, .int .i64 x.l] 120
 key : At W (w.heap.size + 1) #[.int .i64 0, .int .i64 0, .int .i64 0, .int .i64 0] 118
 pg : Pg W n₀ b fr ao cap l
 old : Below w.heap.size w W
theorem Mid.below {w W W' : World} {n₀ b : Nat} {fr : Int} {ao : Option Addr} {cap : Nat} {l : List Ev} {x : Ev} (h : Mid w W n₀ b fr ao cap l x) (g : Below W.heap.size W W') : Mid w W' n₀ b fr ao cap l x :=
 ⟨h.ev.below g, h.key.below g, h.pg.old g, bt h.old g⟩

theorem bset4 {w W : World} (h : Below w.heap.size w W) {c : Nat} (hc : w.heap.size ≤ c) (v0 v1 v2 v3 : Value) : Below w.heap.size w ((((W.setCell ⟨c, 0, none⟩ v0).setCell ⟨c, 1, none⟩ v1).setCell ⟨c, 2, none⟩ v2).setCell ⟨c, 3, none⟩ v3) :=
 (((h.setCell (p := ⟨c, 0, none⟩) hc _).setCell (p := ⟨c, 1, none⟩) hc _).setCell (p := ⟨c, 2, none⟩) hc _).setCell (p := ⟨c, 3, none⟩) hc _
theorem flat_take {α : Type} {enc : α → List Value} {k : Nat} (hk : ∀ x, (enc x).length = k) : ∀ (l : List α) (i : Nat), flat enc (l.take i) = (flat enc l).take (i * k)
 | [], i => by simp [flat]
 | x :: l, 0 => by simp [flat]
 | x :: l, i + 1 => by
  have := flat_take hk l i
  unfold flat at this ⊢
  have h1 : (enc x).take ((i + 1) * k) = enc x := List.take_of_length_le (by rw [hk, Nat.add_mul]; omega)
  rw [List.take_succ_cons, List.flatMap_cons, List.flatMap_cons, this, List.take_append, h1, hk, show (i + 1) * k - k = i * k by rw [Nat.add_mul]; omega]
theorem flat_drop {α : Type} {enc : α → List Value} {k : Nat} (hk : ∀ x, (enc x).length = k) : ∀ (l : List α) (i : Nat), flat enc (l.drop i) = (flat enc l).drop (i * k)
 | [], i => by simp [flat]
 | x :: l, 0 => by simp
 | x :: l, i + 1 => by
  have := flat_drop hk l i
  unfold flat at this ⊢
  have h1 : (enc x).drop ((i + 1) * k) = [] := List.drop_eq_nil_of_le (by rw [hk, Nat.add_mul]; omega)
  rw [List.drop_succ_cons, List.flatMap_cons, this, List.drop_append, h1, hk, show (i + 1) * k - k = i * k by rw [Nat.add_mul]; omega]
  rfl
theorem mid_keeps {w W W' : World} {n₀ b : Nat} {fr : Int} {ao : Option Addr} {cap : Nat} {l : List Ev} {x : Ev} (h : Mid w W n₀ b fr ao cap l x) (k : Keeps (Foot b ao) W W') (hb : b < w.heap.size) (hao : ∀ a, ao = some a → a.block < w.heap.size) :
 At W' w.heap.size #[.int .i64 x.key.f, .int .i64 x.key.e, .int .i64 x.key.k, .int .i64 x.key.o, .int .i64 x.a, .int .i64 x.g, .int .i64 x.p, .int .i64 x.r, .int .i64 x.l] 120 ∧ At W' (w.heap.size + 1) #[.int .i64 0, .int .i64 0, .int .i64 0, .int .i64 0] 118 := by
 constructor
 · exact (k.block _ h.ev.lt (by rintro (e | ⟨a, ha, e⟩); · omega
                                · have := hao a ha; omega)).trans h.ev
 · exact (k.block _ h.key.lt (by rintro (e | ⟨a, ha, e⟩); · omega
                                 · have := hao a ha; omega)).trans h.key

theorem add_nil (e : Ev) (w : World) : Calls Tryz.prog 149 #[.pointer none, ev e] w fun r w' => r = .returned (.tuple #[kv zeroK, .int .i64 2]) ∧ Below w.heap.size w w' := by
 have HK := hid (At.newAt (w.alloc (.cells #[.int .i64 e.key.f, .int .i64 e.key.e, .int .i64 e.key.k, .int .i64 e.key.o, .int .i64 e.a, .int .i64 e.g, .int .i64 e.p, .int .i64 e.r, .int .i64 e.l] 120)) #[.int .i64 0, .int .i64 0, .int .i64 0, .int .i64 0] 118 (n := w.heap.size + 1) (by simp))
 have HB := hid (bal (bal (br w) (.cells #[.int .i64 e.key.f, .int .i64 e.key.e, .int .i64 e.key.k, .int .i64 e.key.o, .int .i64 e.a, .int .i64 e.g, .int .i64 e.p, .int .i64 e.r, .int .i64 e.l] 120)) (.cells #[.int .i64 0, .int .i64 0, .int .i64 0, .int .i64 0] 118))
 go_enter Tryz.func149, Tryz.ntmps149
 go_wp2_with fail
 refine bodyPost_ret (results_key rfl _ _ (w.heap.size + 1) rfl zeroK ?_) rfl ?_
 · exact HK.out
 · exact ⟨rfl, HB.out⟩

set_option maxRecDepth 100000 in
set_option maxHeartbeats 10000000 in
theorem add_c (e : Ev) (w : World) {n₀ b : Nat} {fr : Int} {ao : Option Addr} {cap : Nat} {l : List Ev} (hP : Pg w n₀ b fr ao cap l) (hn : n₀ ≤ w.heap.size) (hu : up (keys l)) (hl : l.length ≤ 64) :
 Calls Tryz.prog 149 #[.pointer (some ⟨b, 0, none⟩), ev e] w fun r w' => r = .returned (.tuple #[kv (addR fr l e).2.1, .int .i64 (addR fr l e).2.2]) ∧
  ∃ ao' cap', Pg w' n₀ b fr ao' cap' (addR fr l e).1 ∧ Rg.Near ao ao' w.heap.size ∧ Keeps (Foot b ao) w w' := by
 have hbw := hP.lt
 obtain ⟨p0, p1⟩ := At.two (Pg.at ((hP.alloc (.cells #[.int .i64 e.key.f, .int .i64 e.key.e, .int .i64 e.key.k, .int .i64 e.key.o, .int .i64 e.a, .int .i64 e.g, .int .i64 e.p, .int .i64 e.r, .int .i64 e.l] 120)).alloc (.cells #[.int .i64 0, .int .i64 0, .int .i64 0, .int .i64 0] 118)))
 have HM : Hid (Mid w ((w.alloc (.cells #[.int .i64 fr, .int .i64 e.key.e, .int .i64 e.key.k, .int .i64 0, .int .i64 e.a, .int .i64 e.g, .int .i64 e.p, .int .i64 e.r, .int .i64 e.l] 120)).alloc (.cells #[.int .i64 0, .int .i64 0, .int .i64 0, .int .i64 0] 118)) n₀ b fr ao cap l (under fr 0 e)) := by
  have g := gal (gal (gr w) (.cells #[.int .i64 fr, .int .i64 e.key.e, .int .i64 e.key.k, .int .i64 0, .int .i64 e.a, .int .i64 e.g, .int .i64 e.p, .int .i64 e.r, .int .i64 e.l] 120)) (.cells #[.int .i64 0, .int .i64 0, .int .i64 0, .int .i64 0] 118)
  exact ⟨(At.new w #[.int .i64 fr, .int .i64 e.key.e, .int .i64 e.key.k, .int .i64 0, .int .i64 e.a, .int .i64 e.g, .int .i64 e.p, .int .i64 e.r, .int .i64 e.l] 120).more _, At.newAt (w.alloc (.cells #[.int .i64 fr, .int .i64 e.key.e, .int .i64 e.key.k, .int .i64 0, .int .i64 e.a, .int .i64 e.g, .int .i64 e.p, .int .i64 e.r, .int .i64 e.l] 120)) #[.int .i64 0, .int .i64 0, .int .i64 0, .int .i64 0] 118 (n := w.heap.size + 1) (by simp), hP.old g.below, g.below⟩
 have HP := hid hP
 have HR : Hid (addR fr l e = if evB (under fr 0 e) = true then (if 64 ≤ l.length ∨ 15 < ordI l e then (l, zeroK, 8) else (putL (under fr (ordI l e) e) l, (under fr (ordI l e) e).key, 0)) else (l, zeroK, 1)) := hid rfl
 clear hP
 go_enter Tryz.func149, Tryz.ntmps149
 go_upto_region 4 with fail
 generalize World.alloc (World.alloc w _) _ = w2 at HM ⊢
 clear p0 p1
 have hao : ∀ a, ao = some a → a.block < w.heap.size := fun a ha => HP.out.footLt a.block (.inr ⟨a, ha, rfl⟩)
 obtain ⟨m0, m1, m2, m3, m4, m5, m6, m7, m8⟩ := HM.out.ev.nine
 cases hE : evB (under fr 0 e)
 case false =>
  rw [hE] at HR
  simp only [Bool.false_eq_true, if_false] at HR
  go_wp2_with (go_at_call 180; ((refine (right_c (under fr 0 e) _).mono ?_); rintro r w3 ⟨rfl, g3⟩; rw [hE]; have HM3 := hid (HM.out.below g3.below); obtain ⟨k0, k1, k2, k3⟩ := HM3.out.key.four; have f0 := HM3.out.key.frozen 0; have f1 := HM3.out.key.frozen 1; have f2 := HM3.out.key.frozen 2; have f3 := HM3.out.key.frozen 3))
  refine bodyPost_ret (results_key rfl _ _ (w.heap.size + 1) rfl zeroK (HM3.out.key.put4 _ _ _ _)) rfl ?_
  rw [HR.out]
  have hB := bset4 HM3.out.old (c := w.heap.size + 1) (by omega) (.int .i64 0) (.int .i64 0) (.int .i64 0) (.int .i64 0)
  exact ⟨rfl, ao, cap, HP.out.old hB, Rg.Near.refl _ _, Keeps.ofOld hB _⟩
 rw [hE] at HR
 simp only [if_true] at HR
 obtain ⟨q, hq⟩ : ∃ q, Hid (ordI l e = q) := ⟨_, rfl⟩
 rw [hq.out] at HR
 have hql : q ≤ 64 := by
  have h1 : ordI l e ≤ (keys l).length := List.countP_le_length
  rw [hq.out] at h1
  simp at h1
  omega
 go_upto_region 7 with (first
  | (go_at_call 180; ((refine (right_c (under fr 0 e) _).mono ?_); rintro r w3 ⟨rfl, g3⟩; rw [hE]; have HM3 := hid (HM.out.below g3.below); obtain ⟨a0, a1, a2, a3, a4, a5, a6, a7, a8⟩ := HM3.out.ev.nine))
  | (go_at_call 181; ((refine (count_c b fr _ l e.key.e e.key.k _ (Pg.at HM3.out.pg) (Pg.sl HM3.out.pg) (by omega)).mono ?_); rintro r w4 ⟨rfl, g4⟩; rw [show List.countP (sameB e.key.e e.key.k) (keys l) = q from hq.out]; have HM4 := hid (HM3.out.below g4); obtain ⟨b0, b1, b2, b3, b4, b5, b6, b7, b8⟩ := HM4.out.ev.nine; have f3 := HM4.out.ev.frozen 3)))
 have HM5 : Hid (Mid w (w4.setCell ⟨w.heap.size, 3, none⟩ (.int .i64 q)) n₀ b fr ao cap l (under fr q e)) := by
  have hB := HM4.out.old.setCell (p := ⟨w.heap.size, 3, none⟩) (Nat.le_refl _) (.int .i64 q)
  exact ⟨heap_setCell_same _ _ 3 _ _ _ HM4.out.ev, HM4.out.key.far (by omega) _, HP.out.old hB, hB⟩
 generalize World.setCell w4 _ _ = w5 at HM5 ⊢
 clear m0 m1 m2 m3 m4 m5 m6 m7 m8 a0 a1 a2 a3 a4 a5 a6 a7 a8 b0 b1 b2 b3 b4 b5 b6 b7 b8 f3 g3 g4 HM3 HM4 HM
 obtain ⟨m0, m1, m2, m3, m4, m5, m6, m7, m8⟩ := HM5.out.ev.nine
 obtain ⟨p0, p1⟩ := (Pg.at HM5.out.pg).two
 obtain ⟨k0, k1, k2, k3⟩ := HM5.out.key.four
 have f0 := HM5.out.key.frozen 0
 have f1 := HM5.out.key.frozen 1
 have f2 := HM5.out.key.frozen 2
 have f3 := HM5.out.key.frozen 3
 have hB5 := bset4 HM5.out.old (c := w.heap.size + 1) (by omega) (.int .i64 0) (.int .i64 0) (.int .i64 0) (.int .i64 0)
 have HB5 := hid hB5
 clear hB5
 simp only [under] at m0 m1 m2 m3 m4 m5 m6 m7 m8
 by_cases hfull : 64 ≤ l.length
 · rw [if_pos (.inl hfull)] at HR
   have d1 : decide ((64 : Int) ≤ (l.length : Int)) = true := by simp; omega
   have d1' : (64 : Int) ≤ (l.length : Int) := by omega
   go_wp2_with fail
   refine bodyPost_ret (results_key rfl _ _ (w.heap.size + 1) rfl zeroK (HM5.out.key.put4 _ _ _ _)) rfl ?_
   rw [HR.out]
   first | exact ⟨rfl, ao, cap, HP.out.old HB5.out, Rg.Near.refl _ _, Keeps.ofOld HB5.out _⟩ | exact ⟨rfl, ao, ⟨cap, HP.out.old HB5.out⟩, Rg.Near.refl _ _, Keeps.ofOld HB5.out _⟩
 have d1 : decide ((64 : Int) ≤ (l.length : Int)) = false := by simp; omega
 have d1' : ¬ (64 : Int) ≤ (l.length : Int) := by omega
 by_cases hq15 : 15 < q
 · rw [if_pos (.inr hq15)] at HR
   have d2 : decide ((15 : Int) < (q : Int)) = true := by simp; omega
   have d2' : (15 : Int) < (q : Int) := by omega
   go_wp2_with fail
   refine bodyPost_ret (results_key rfl _ _ (w.heap.size + 1) rfl zeroK (HM5.out.key.put4 _ _ _ _)) rfl ?_
   rw [HR.out]
   first | exact ⟨rfl, ao, cap, HP.out.old HB5.out, Rg.Near.refl _ _, Keeps.ofOld HB5.out _⟩ | exact ⟨rfl, ao, ⟨cap, HP.out.old HB5.out⟩, Rg.Near.refl _ _, Keeps.ofOld HB5.out _⟩
 rw [if_neg (by omega)] at HR
 have d2 : decide ((15 : Int) < (q : Int)) = false := by simp; omega
 have d2' : ¬ (15 : Int) < (q : Int) := by omega
 clear hE HB5
 go_upto_region 9 with fail
 obtain ⟨x, hx⟩ : ∃ x, x = under fr q e := ⟨_, rfl⟩
 rw [← hx] at HM5 HR
 clear hx m0 m1 m2 m3 m4 m5 m6 m7 m8
 have hK : Hid (∀ W, Gr w5 W → (W.cell? ⟨b, 0, none⟩ = some (.int .i64 fr) ∧ W.cell? ⟨b, 1, none⟩ = some (.slice ao l.length cap)) ∧ W.cell? ⟨w.heap.size, 0, none⟩ = some (.int .i64 x.key.f) ∧ W.cell? ⟨w.heap.size, 1, none⟩ = some (.int .i64 x.key.e) ∧ W.cell? ⟨w.heap.size, 2, none⟩ = some (.int .i64 x.key.k) ∧ W.cell? ⟨w.heap.size, 3, none⟩ = some (.int .i64 x.key.o)) := hid (fun W g => by
  have h := HM5.out.below g.below
  obtain ⟨n0, n1, n2, n3, _⟩ := h.ev.nine
  exact ⟨(Pg.at h.pg).two, n0, n1, n2, n3⟩)
 have HPS := hid (Pg.sl HM5.out.pg)
 clear p0 p1 k0 k1 k2 k3 f0 f1 f2 f3
 refine wp_region_noPanic ?_
 refine wp_region_held_drew (S := (fun W => Gr w5 W)) (by kernel_rfl) (by first | exact gd1 (gr _) | exact gr _) (fun hHeld => ?_)
 refine tkA 0 47 ?_
 simp only [pa, pu2, pu3]
 refine tkA 1 48 ?_
 simp only [pa, pu2, pu3]
 refine tkA 2 49 ?_
 simp only [pa, pu2, pu3]
 refine tkL 3 50 hK.out ?_
 simp only [pa, pu2, pu3]
 refine tkA 4 51 ?_
 simp only [pa, pu2, pu3]
 refine tkL 5 52 hK.out ?_
 simp only [pa, pu2, pu3]
 refine onA 6 (fun K hKK => ?_)
 go_simp
 ((refine (place_c _ l x.key _ (HPS.out.below (show Gr w5 _ by first | with_reducible assumption | exact gd1 (gr _)).below) hu (by omega)).mono ?_); rintro e1 y3 ⟨rfl, hy3⟩; have hgy3 := gt (show Gr w5 _ by first | with_reducible assumption | exact gd1 (gr _)) hy3; clear hy3)
 dsimp only
 refine hKK.out _ _ hgy3 (fun hHeld => ?_)
 clear hKK K
 (try simp only [Act.put, pu1, pu2, pu3])
 refine tkA 7 46 ?_
 simp only [pa, pu2, pu3]
 refine tkA 8 54 ?_
 simp only [pa, pu2, pu3]
 refine tkA 9 55 ?_
 simp only [pa, pu2, pu3]
 refine tkA 10 6 ?_
 simp only [pa, pu2, pu3]
 refine tkA 11 7 ?_
 simp only [pa, pu2, pu3]
 refine wpAnyH_done (by kernel_rfl) ?_ _
 refine NoPanic.normal ?_
 go_upto_region 10 with fail
 have HM6 := hid (HM5.out.below hgy3.below)
 clear HM5 HPS hgy3 hK
 generalize y3 = w6 at HM6 ⊢
 generalize hlo : lo (keys l) x.key = i
 have hil : i ≤ l.length := by have := lo_le (keys l) x.key; rw [hlo] at this; simpa using this
 have HPL : Hid (putL x l = l.take i ++ [x] ++ l.drop i) := hid (by rw [put_lo, hlo])
 generalize decide (x.key ∈ keys l) = B
 obtain ⟨c0, c1, c2, c3, c4, c5, c6, c7, c8⟩ := HM6.out.ev.nine
 obtain ⟨p0, p1⟩ := (Pg.at HM6.out.pg).two
 have hb7 : Below w6.heap.size w6 (w6.drew.alloc (.cells #[.int .i64 x.key.f, .int .i64 x.key.e, .int .i64 x.key.k, .int .i64 x.key.o, .int .i64 x.a, .int .i64 x.g, .int .i64 x.p, .int .i64 x.r, .int .i64 x.l] 120)) := (gal (gd1 (gr w6)) _).below
 have HM7 := hid (HM6.out.below hb7)
 have HP7 := hid HM7.out.pg
 have HI := hid (insert_c n₀ l.length cap i w6.heap.size ao x (flat ecs l) _ HP7.out.row (flat_cell ecs_one l) (heap_alloc_new w6.drew _) (fun a ha e => by have := hao a ha; have := HM6.out.old.size; omega) hil (by omega) (by have := HM7.out.old.size; omega))
 have HFIN : Hid (∀ (ao' : Option Addr) (cap' : Nat) (w9 : World), Rg.Near ao ao' (w6.drew.alloc (.cells #[.int .i64 x.key.f, .int .i64 x.key.e, .int .i64 x.key.k, .int .i64 x.key.o, .int .i64 x.a, .int .i64 x.g, .int .i64 x.p, .int .i64 x.r, .int .i64 x.l] 120)).heap.size →
  Held w9 n₀ 153 120 9 b [.int .i64 fr] ao' (l.length + 1) cap' ((flat ecs l).take (i * 9) ++ ecs x ++ (flat ecs l).drop (i * 9)) → Keeps (Foot b ao) (w6.drew.alloc (.cells #[.int .i64 x.key.f, .int .i64 x.key.e, .int .i64 x.key.k, .int .i64 x.key.o, .int .i64 x.a, .int .i64 x.g, .int .i64 x.p, .int .i64 x.r, .int .i64 x.l] 120)) w9 →
  Ending.returned (.tuple #[kv x.key, .int .i64 0]) = Ending.returned (.tuple #[kv (addR fr l e).2.1, .int .i64 (addR fr l e).2.2]) ∧ ∃ ao' cap', Pg ((((w9.setCell ⟨w.heap.size + 1, 0, none⟩ (.int .i64 x.key.f)).setCell ⟨w.heap.size + 1, 1, none⟩ (.int .i64 x.key.e)).setCell ⟨w.heap.size + 1, 2, none⟩ (.int .i64 x.key.k)).setCell ⟨w.heap.size + 1, 3, none⟩ (.int .i64 x.key.o)) n₀ b fr ao' cap' (addR fr l e).1 ∧ Rg.Near ao ao' w.heap.size ∧ Keeps (Foot b ao) w ((((w9.setCell ⟨w.heap.size + 1, 0, none⟩ (.int .i64 x.key.f)).setCell ⟨w.heap.size + 1, 1, none⟩ (.int .i64 x.key.e)).setCell ⟨w.heap.size + 1, 2, none⟩ (.int .i64 x.key.k)).setCell ⟨w.heap.size + 1, 3, none⟩ (.int .i64 x.key.o))) := hid (by
  intro ao' cap' w9 hnear hh hk9
  rw [HR.out]
  have hsz7 := HM7.out.old.size
  have hk7 := HM7.out.key.lt
  have K0 : Keeps (Foot b ao) w w9 := (Keeps.ofOld HM7.out.old (Foot b ao)).trans hk9 (fun _ _ e => e)
  refine ⟨rfl, ao', cap', ?_, ?_, (((K0.setCell (p := ⟨w.heap.size + 1, 0, none⟩) (fun h => by simp at h; omega) _).setCell (p := ⟨w.heap.size + 1, 1, none⟩) (fun h => by simp at h; omega) _).setCell (p := ⟨w.heap.size + 1, 2, none⟩) (fun h => by simp at h; omega) _).setCell (p := ⟨w.heap.size + 1, 3, none⟩) (fun h => by simp at h; omega) _⟩
  · have e1 : (putL x l).length = l.length + 1 := put_len x l
    have e2 : flat ecs (putL x l) = (flat ecs l).take (i * 9) ++ ecs x ++ (flat ecs l).drop (i * 9) := by rw [HPL.out, flat_append, flat_append, flat_take (k := 9) (fun _ => rfl), flat_drop (k := 9) (fun _ => rfl)]; simp [flat]
    show Held _ _ _ _ _ _ _ _ _ _ _
    rw [e1, e2]
    refine hh.keeps (S := fun k => k = w.heap.size + 1) ((((Keeps.refl (fun k => k = w.heap.size + 1) w9).setCell (p := ⟨w.heap.size + 1, 0, none⟩) (fun _ => rfl) _).setCell (p := ⟨w.heap.size + 1, 1, none⟩) (fun _ => rfl) _).setCell (p := ⟨w.heap.size + 1, 2, none⟩) (fun _ => rfl) _ |>.setCell (p := ⟨w.heap.size + 1, 3, none⟩) (fun _ => rfl) _) ?_
    rintro k (e3 | ⟨a, ha, e3⟩) e4
    · omega
    · rcases hnear a ha with ⟨a0, h5, h6⟩ | h5
      · have := hao a0 h5; omega
      · omega
  · intro a ha
    rcases hnear a ha with h5 | h5
    · exact .inl h5
    · exact .inr (by omega))
 have hi0 : (0 : Int) ≤ (i : Int) := by omega
 have p7 : (w6.alloc (.cells #[.int .i64 x.key.f, .int .i64 x.key.e, .int .i64 x.key.k, .int .i64 x.key.o, .int .i64 x.a, .int .i64 x.g, .int .i64 x.p, .int .i64 x.r, .int .i64 x.l] 120)).cell? ⟨b, 1, none⟩ = some (.slice ao l.length cap) := (At.two (Pg.at HP7.out)).2
 clear hlo
 refine wp_region_noPanic ?_
 refine wp_region_held_drew (S := (fun _ => True)) (by kernel_rfl) trivial (fun hHeld => ?_)
 refine tkA 0 56 ?_
 simp only [pa, pu2, pu3]
 refine tkA 1 57 ?_
 simp only [pa, pu2, pu3]
 refine tkA 2 58 ?_
 simp only [pa, pu2, pu3]
 refine tkA 3 59 ?_
 simp only [pa, pu2, pu3]
 refine tkA 5 61 ?_
 simp only [pa, pu2, pu3]
 refine wpAnyH_ready (rs := [4, 6]) (by kernel_rfl) (by simp) ?_
 refine AllReadyH.cons (i := 4) rfl (fun K hKK => ?_) (AllReadyH.cons (i := 6) rfl (fun K hKK => ?_) AllReadyH.nil)
 · go_simp
   (try dsimp only)
   refine hKK.out _ _ trivial (fun hHeld => ?_)
   clear hKK K
   (try simp only [Act.put, pu1, pu2, pu3])
   refine onA 6 (fun K hKK => ?_)
   go_simp
   (try dsimp only)
   refine hKK.out _ _ trivial (fun hHeld => ?_)
   clear hKK K
   (try simp only [Act.put, pu1, pu2, pu3])
   refine onA 7 (fun K hKK => ?_)
   go_simp
   (try dsimp only)
   refine hKK.out _ _ trivial (fun hHeld => ?_)
   clear hKK K
   (try simp only [Act.put, pu1, pu2, pu3])
   refine onA 8 (fun K hKK => ?_)
   go_simp
   (refine HI.out.mono ?_; rintro e1 w8 ⟨ao', cap', rfl, hown, hg, hnear⟩; have hk8 : Keeps (Foot b ao) (w6.drew.alloc (.cells #[.int .i64 x.key.f, .int .i64 x.key.e, .int .i64 x.key.k, .int .i64 x.key.o, .int .i64 x.a, .int .i64 x.g, .int .i64 x.p, .int .i64 x.r, .int .i64 x.l] 120)) w8 ∧ w8.heap[b]? = (w6.drew.alloc (.cells #[.int .i64 x.key.f, .int .i64 x.key.e, .int .i64 x.key.k, .int .i64 x.key.o, .int .i64 x.a, .int .i64 x.g, .int .i64 x.p, .int .i64 x.r, .int .i64 x.l] 120)).heap[b]? := ins_keeps HP7.out (by decide) hg; have c8 : w8.cell? ⟨b, 1, none⟩ = some (.slice ao l.length cap) := (World.cell?_of_block hk8.2).trans (At.two (Pg.at HP7.out)).2; have f8 : w8.frozen? ⟨b, 1, none⟩ = false := (World.frozen?_of_block hk8.2).trans (HP7.out.frozen 1))
   (try dsimp only)
   refine hKK.out _ _ trivial (fun hHeld => ?_)
   clear hKK K
   (try simp only [Act.put, pu1, pu2, pu3])
   refine onA 9 (fun K hKK => ?_)
   go_simp
   (try dsimp only)
   refine hKK.out _ _ trivial (fun hHeld => ?_)
   clear hKK K
   (try simp only [Act.put, pu1, pu2, pu3])
   refine onA 10 (fun K hKK => ?_)
   go_simp
   (try dsimp only)
   refine hKK.out _ _ trivial (fun hHeld => ?_)
   clear hKK K
   (try simp only [Act.put, pu1, pu2, pu3])
   refine onA 11 (fun K hKK => ?_)
   go_simp
   (try dsimp only)
   refine hKK.out _ _ trivial (fun hHeld => ?_)
   clear hKK K
   (try simp only [Act.put, pu1, pu2, pu3])
   refine wpAnyH_done (by kernel_rfl) ?_ _
   refine NoPanic.normal ?_
   have HM8 := hid (mid_keeps HM7.out hk8.1 hbw hao)
   obtain ⟨hh, hk9⟩ := HP7.out.stored (by decide) hk8.1 hk8.2 hown
   have HH := hid hh
   have HK9 := hid hk9
   clear hh hk9
   have hA9 := HM8.out.1.far (c := b) (j := 1) (by omega) (.slice ao' (l.length + 1) cap')
   have hB9 := HM8.out.2.far (c := b) (j := 1) (by omega) (.slice ao' (l.length + 1) cap')
   obtain ⟨m0, m1, m2, m3, m4, m5, m6, m7, m8⟩ := hA9.nine
   obtain ⟨k0, k1, k2, k3⟩ := hB9.four
   have f0 := hB9.frozen 0
   have f1 := hB9.frozen 1
   have f2 := hB9.frozen 2
   have f3 := hB9.frozen 3
   have HB9 := hid hB9
   clear hA9 hB9 c8 f8
   generalize World.setCell w8 _ _ = w9 at HH HK9 HB9 m0 m1 m2 m3 m4 m5 m6 m7 m8 k0 k1 k2 k3 f0 f1 f2 f3 ⊢
   go_wp2_with fail
   refine bodyPost_ret (results_key rfl _ _ (w.heap.size + 1) rfl x.key (HB9.out.put4 _ _ _ _)) rfl ?_
   obtain ⟨z1, z2, z3, z4, z5, z6⟩ := HFIN.out ao' cap' w9 hnear HH.out HK9.out
   first | exact ⟨z1, z2, z3, z4, z5, z6⟩ | exact ⟨z1, z2, ⟨z3, z4⟩, z5, z6⟩
 · go_simp
   (try dsimp only)
   refine hKK.out _ _ trivial (fun hHeld => ?_)
   clear hKK K
   (try simp only [Act.put, pu1, pu2, pu3])
   refine wpAnyH_ready (rs := [4, 7]) (by kernel_rfl) (by simp) ?_
   refine AllReadyH.cons (i := 4) rfl (fun K hKK => ?_) (AllReadyH.cons (i := 7) rfl (fun K hKK => ?_) AllReadyH.nil)
   · go_simp
     (try dsimp only)
     refine hKK.out _ _ trivial (fun hHeld => ?_)
     clear hKK K
     (try simp only [Act.put, pu1, pu2, pu3])
     refine onA 7 (fun K hKK => ?_)
     go_simp
     (try dsimp only)
     refine hKK.out _ _ trivial (fun hHeld => ?_)
     clear hKK K
     (try simp only [Act.put, pu1, pu2, pu3])
     refine onA 8 (fun K hKK => ?_)
     go_simp
     (refine HI.out.mono ?_; rintro e1 w8 ⟨ao', cap', rfl, hown, hg, hnear⟩; have hk8 : Keeps (Foot b ao) (w6.drew.alloc (.cells #[.int .i64 x.key.f, .int .i64 x.key.e, .int .i64 x.key.k, .int .i64 x.key.o, .int .i64 x.a, .int .i64 x.g, .int .i64 x.p, .int .i64 x.r, .int .i64 x.l] 120)) w8 ∧ w8.heap[b]? = (w6.drew.alloc (.cells #[.int .i64 x.key.f, .int .i64 x.key.e, .int .i64 x.key.k, .int .i64 x.key.o, .int .i64 x.a, .int .i64 x.g, .int .i64 x.p, .int .i64 x.r, .int .i64 x.l] 120)).heap[b]? := ins_keeps HP7.out (by decide) hg; have c8 : w8.cell? ⟨b, 1, none⟩ = some (.slice ao l.length cap) := (World.cell?_of_block hk8.2).trans (At.two (Pg.at HP7.out)).2; have f8 : w8.frozen? ⟨b, 1, none⟩ = false := (World.frozen?_of_block hk8.2).trans (HP7.out.frozen 1))
     (try dsimp only)
     refine hKK.out _ _ trivial (fun hHeld => ?_)
     clear hKK K
     (try simp only [Act.put, pu1, pu2, pu3])
     refine onA 9 (fun K hKK => ?_)
     go_simp
     (try dsimp only)
     refine hKK.out _ _ trivial (fun hHeld => ?_)
     clear hKK K
     (try simp only [Act.put, pu1, pu2, pu3])
     refine onA 10 (fun K hKK => ?_)
     go_simp
     (try dsimp only)
     refine hKK.out _ _ trivial (fun hHeld => ?_)
     clear hKK K
     (try simp only [Act.put, pu1, pu2, pu3])
     refine onA 11 (fun K hKK => ?_)
     go_simp
     (try dsimp only)
     refine hKK.out _ _ trivial (fun hHeld => ?_)
     clear hKK K
     (try simp only [Act.put, pu1, pu2, pu3])
     refine wpAnyH_done (by kernel_rfl) ?_ _
     refine NoPanic.normal ?_
     have HM8 := hid (mid_keeps HM7.out hk8.1 hbw hao)
     obtain ⟨hh, hk9⟩ := HP7.out.stored (by decide) hk8.1 hk8.2 hown
     have HH := hid hh
     have HK9 := hid hk9
     clear hh hk9
     have hA9 := HM8.out.1.far (c := b) (j := 1) (by omega) (.slice ao' (l.length + 1) cap')
     have hB9 := HM8.out.2.far (c := b) (j := 1) (by omega) (.slice ao' (l.length + 1) cap')
     obtain ⟨m0, m1, m2, m3, m4, m5, m6, m7, m8⟩ := hA9.nine
     obtain ⟨k0, k1, k2, k3⟩ := hB9.four
     have f0 := hB9.frozen 0
     have f1 := hB9.frozen 1
     have f2 := hB9.frozen 2
     have f3 := hB9.frozen 3
     have HB9 := hid hB9
     clear hA9 hB9 c8 f8
     generalize World.setCell w8 _ _ = w9 at HH HK9 HB9 m0 m1 m2 m3 m4 m5 m6 m7 m8 k0 k1 k2 k3 f0 f1 f2 f3 ⊢
     go_wp2_with fail
     refine bodyPost_ret (results_key rfl _ _ (w.heap.size + 1) rfl x.key (HB9.out.put4 _ _ _ _)) rfl ?_
     obtain ⟨z1, z2, z3, z4, z5, z6⟩ := HFIN.out ao' cap' w9 hnear HH.out HK9.out
     first | exact ⟨z1, z2, z3, z4, z5, z6⟩ | exact ⟨z1, z2, ⟨z3, z4⟩, z5, z6⟩
   · go_simp
     (try dsimp only)
     refine hKK.out _ _ trivial (fun hHeld => ?_)
     clear hKK K
     (try simp only [Act.put, pu1, pu2, pu3])
     refine onA 4 (fun K hKK => ?_)
     go_simp
     (try dsimp only)
     refine hKK.out _ _ trivial (fun hHeld => ?_)
     clear hKK K
     (try simp only [Act.put, pu1, pu2, pu3])
     refine onA 8 (fun K hKK => ?_)
     go_simp
     (refine HI.out.mono ?_; rintro e1 w8 ⟨ao', cap', rfl, hown, hg, hnear⟩; have hk8 : Keeps (Foot b ao) (w6.drew.alloc (.cells #[.int .i64 x.key.f, .int .i64 x.key.e, .int .i64 x.key.k, .int .i64 x.key.o, .int .i64 x.a, .int .i64 x.g, .int .i64 x.p, .int .i64 x.r, .int .i64 x.l] 120)) w8 ∧ w8.heap[b]? = (w6.drew.alloc (.cells #[.int .i64 x.key.f, .int .i64 x.key.e, .int .i64 x.key.k, .int .i64 x.key.o, .int .i64 x.a, .int .i64 x.g, .int .i64 x.p, .int .i64 x.r, .int .i64 x.l] 120)).heap[b]? := ins_keeps HP7.out (by decide) hg; have c8 : w8.cell? ⟨b, 1, none⟩ = some (.slice ao l.length cap) := (World.cell?_of_block hk8.2).trans (At.two (Pg.at HP7.out)).2; have f8 : w8.frozen? ⟨b, 1, none⟩ = false := (World.frozen?_of_block hk8.2).trans (HP7.out.frozen 1))
     (try dsimp only)
     refine hKK.out _ _ trivial (fun hHeld => ?_)
     clear hKK K
     (try simp only [Act.put, pu1, pu2, pu3])
     refine onA 9 (fun K hKK => ?_)
     go_simp
     (try dsimp only)
     refine hKK.out _ _ trivial (fun hHeld => ?_)
     clear hKK K
     (try simp only [Act.put, pu1, pu2, pu3])
     refine onA 10 (fun K hKK => ?_)
     go_simp
     (try dsimp only)
     refine hKK.out _ _ trivial (fun hHeld => ?_)
     clear hKK K
     (try simp only [Act.put, pu1, pu2, pu3])
     refine onA 11 (fun K hKK => ?_)
     go_simp
     (try dsimp only)
     refine hKK.out _ _ trivial (fun hHeld => ?_)
     clear hKK K
     (try simp only [Act.put, pu1, pu2, pu3])
     refine wpAnyH_done (by kernel_rfl) ?_ _
     refine NoPanic.normal ?_
     have HM8 := hid (mid_keeps HM7.out hk8.1 hbw hao)
     obtain ⟨hh, hk9⟩ := HP7.out.stored (by decide) hk8.1 hk8.2 hown
     have HH := hid hh
     have HK9 := hid hk9
     clear hh hk9
     have hA9 := HM8.out.1.far (c := b) (j := 1) (by omega) (.slice ao' (l.length + 1) cap')
     have hB9 := HM8.out.2.far (c := b) (j := 1) (by omega) (.slice ao' (l.length + 1) cap')
     obtain ⟨m0, m1, m2, m3, m4, m5, m6, m7, m8⟩ := hA9.nine
     obtain ⟨k0, k1, k2, k3⟩ := hB9.four
     have f0 := hB9.frozen 0
     have f1 := hB9.frozen 1
     have f2 := hB9.frozen 2
     have f3 := hB9.frozen 3
     have HB9 := hid hB9
     clear hA9 hB9 c8 f8
     generalize World.setCell w8 _ _ = w9 at HH HK9 HB9 m0 m1 m2 m3 m4 m5 m6 m7 m8 k0 k1 k2 k3 f0 f1 f2 f3 ⊢
     go_wp2_with fail
     refine bodyPost_ret (results_key rfl _ _ (w.heap.size + 1) rfl x.key (HB9.out.put4 _ _ _ _)) rfl ?_
     obtain ⟨z1, z2, z3, z4, z5, z6⟩ := HFIN.out ao' cap' w9 hnear HH.out HK9.out
     first | exact ⟨z1, z2, z3, z4, z5, z6⟩ | exact ⟨z1, z2, ⟨z3, z4⟩, z5, z6⟩

end Go.Proofs.YtfclnhmijjlhdaaGreatDoor.Ev
