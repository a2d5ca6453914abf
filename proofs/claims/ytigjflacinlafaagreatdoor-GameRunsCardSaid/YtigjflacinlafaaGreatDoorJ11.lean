/- The memory of Diff: what is gone, fresh and turned, as three lists of the call's own (layer 11, event). -/
/- What the document's Add returns (layer 11, event). -/
import Derived.Test.YtigjflacinlafaaGreatDoorJ7
import Derived.Maps.OwnIn
import Derived.Test.YtigjflacinlafaaGreatDoorEvAdd
import Derived.Deep.RegionWith
namespace Go.Proofs.YtigjflacinlafaaGreatDoor.Ev
open Go.RowKit
set_option linter.unusedVariables false

theorem own_old {w w' : World} {B n k : Nat} {t : TypeId} {v : Value} {xs : List Value} (h : w.ownsRow B t k v n xs) (g : Below w.heap.size w w') : w'.ownsRow B t k v n xs := by
 refine ⟨h.1, ?_⟩
 rcases h.2 with h | ⟨b, cap, cur, e, h1, h2, h3⟩
 · exact .inl h
 · exact .inr ⟨b, cap, cur, e, h1, by rw [g.block b (Array.getElem?_eq_some_iff.1 h2).1]; exact h2, h3⟩
theorem own_block {w : World} {B n k : Nat} {t : TypeId} {v : Value} {xs : List Value} (h : w.ownsRow B t k v n xs) {b : Nat} (hb : v.ownBlock = some b) : ∃ cur, w.heap[b]? = some (.cells cur t (0, 0)) := by
 rcases h.2 with ⟨rfl, _⟩ | ⟨g, cap, cur, rfl, _, h2, _⟩
 · simp [Value.ownBlock] at hb
 · simp [Value.ownBlock] at hb
   subst hb
   exact ⟨cur, h2⟩
/-- a block of another type isn't a list's own. -/
theorem At.not_row {w : World} {b B n k : Nat} {cs : Array Value} {t e : TypeId} {v : Value} {xs : List Value} (h : At w b cs t) (hr : w.ownsRow B e k v n xs) (hte : t ≠ e) : some b ≠ v.ownBlock := by
 intro hb
 obtain ⟨cur, h2⟩ := own_block hr hb.symm
 rw [show w.heap[b]? = _ from h] at h2
 injection h2 with h2
 injection h2 with _ h2
 exact hte h2
theorem rows_apart {w : World} {B n k B' n' k' : Nat} {t t' : TypeId} {v v' : Value} {xs xs' : List Value} (h : w.ownsRow B t k v n xs) (h' : w.ownsRow B' t' k' v' n' xs') (hte : t ≠ t') : v.ownBlock = none ∨ v.ownBlock ≠ v'.ownBlock := by
 cases hb : v.ownBlock with
 | none => exact .inl rfl
 | some b =>
  refine .inr fun e => ?_
  obtain ⟨cur, h1⟩ := own_block h hb
  obtain ⟨cur', h2⟩ := own_block h' e.symm
  rw [h1] at h2
  injection h2 with h2
  injection h2 with _ h2
  exact hte h2
theorem own_set {w : World} {B n k b j : Nat} {t : TypeId} {v : Value} {xs : List Value} (h : w.ownsRow B t k v n xs) (hne : some b ≠ v.ownBlock) (u : Value) : (w.setCell ⟨b, j, none⟩ u).ownsRow B t k v n xs := by
 refine ⟨h.1, ?_⟩
 rcases h.2 with h | ⟨g, cap, cur, e, h1, h2, h3⟩
 · exact .inl h
 · refine .inr ⟨g, cap, cur, e, h1, ?_, h3⟩
   subst e
   rw [Below.heap_setCell _ _ _ _ (by intro e; subst e; exact hne rfl)]
   exact h2

/-- one more key at the end of a list of the call's own. -/
theorem cell_four_new (w : World) (y : Ky) (t : TypeId) : ∀ j u, (kcs y)[j]? = some u → (w.alloc (.cells #[.int .i64 y.f, .int .i64 y.e, .int .i64 y.k, .int .i64 y.o] t)).cell? ((⟨w.heap.size, 0, none⟩ : Addr).add j) = some u := by
 intro j u hj
 rw [Addr.add_lit, Nat.zero_add, cell_of_row _ _ _ _ _ _ (At.new w _ t)]
 simpa using hj

/-- how a list of the call's own lies behind an append. -/
def More (B : Nat) (t : TypeId) (k : Nat) (W0 w : World) (v : Value) (n : Nat) (xs : List Value) (v' : Value) (w' : World) : Prop :=
 w'.ownsRow B t k v' n xs ∧ Below B W0 w' ∧ w.grownBy w' v.ownBlock ∧ (v'.ownBlock = v.ownBlock ∨ ∃ b, v'.ownBlock = some b ∧ w.heap.size ≤ b)

end Go.Proofs.YtigjflacinlafaaGreatDoor.Ev

namespace Go.Proofs.YtigjflacinlafaaGreatDoor.Ev
open Go.RowKit
set_option linter.unusedVariables false

theorem results_rkey {fn : Func} (h : fn.results = #[.tmp 6, .cell 7 51, .tmp 8]) (tmps : Array Value) (W : World) (b : Nat) (hp : tmps[7]?.getD undef = .pointer (some ⟨b, 0, none⟩)) (k : Ky) (hA : At W b #[.int .i64 k.f, .int .i64 k.e, .int .i64 k.k, .int .i64 k.o] 51) :
 (results fn tmps).run Tryz.prog W = .ok (.tuple #[tmps.getD 6 undef, kv k, tmps.getD 8 undef]) W := by
 obtain ⟨c0, c1, c2, c3⟩ := hA.four
 simp [results, h, hp, go_sem, c0, c1, c2, c3]
structure Mr (w W : World) (x : Ev) : Prop where
 ev : At W w.heap.size #[.int .i64 x.key.f, .int .i64 x.key.e, .int .i64 x.key.k, .int .i64 x.key.o, .int .i64 x.a, .int .i64 x.g, .int .i64 x.p, .int .i64 x.r, .int .i64 x.l] 53
 key : At W (w.heap.size + 1) #[.int .i64 0, .int .i64 0, .int .i64 0, .int .i64 0] 51
 old : Below w.heap.size w W
theorem Mr.below {w W W' : World} {x : Ev} (h : Mr w W x) (g : Below W.heap.size W W') : Mr w W' x := ⟨h.ev.below g, h.key.below g, bt h.old g⟩
theorem Mr.ord {w W : World} {fr q : Int} {e : Ev} (h : Mr w W (under fr q e)) (q' : Int) : Mr w (W.setCell ⟨w.heap.size, 3, none⟩ (.int .i64 q')) (under fr q' e) :=
 ⟨heap_setCell_same W w.heap.size 3 _ _ (.int .i64 q') h.ev, h.key.far (by omega) _, h.old.setCell (p := ⟨w.heap.size, 3, none⟩) (Nat.le_refl _) _⟩
/-- v' is v, or lies in a new block. -/
def Frv (w w' : World) (v v' : Value) : Prop := v' = v ∨ ∀ k, v'.ownBlock = some k → w.heap.size ≤ k ∧ k < w'.heap.size
theorem ord_step {l : List Ev} {k : Nat} {x : Ev} (hx : l[k]? = some x) (e : Ev) : ordI (l.take (k + 1)) e = ordI (l.take k) e + (if sameB e.key.e e.key.k x.key = true then 1 else 0) := by
 unfold ordI
 rw [← take_snoc hx, keys, List.map_append, List.map_cons, List.map_nil, count_snoc]
theorem ord_le (l : List Ev) (e : Ev) : ordI l e ≤ l.length := by
 have h1 : ordI l e ≤ (keys l).length := List.countP_le_length
 simpa using h1

set_option maxRecDepth 100000 in
set_option maxHeartbeats 4000000 in
theorem radd_c (v : Value) (l : List Ev) (fr : Int) (e : Ev) (w : World) (h : Evs w v l) (hl : l.length ≤ 64) :
 Calls Tryz.prog 48 #[v, .int .i64 fr, ev e] w fun r w' => ∃ v', r = .returned (.tuple #[v', kv (addR fr l e).2.1, .int .i64 (addR fr l e).2.2]) ∧ Evs w' v' (addR fr l e).1 ∧ Below w.heap.size w w' ∧ Frv w w' v v' := by
 have HV := hid h
 obtain ⟨ao, L, cap, rfl, hL, hc, hm, ht⟩ := h
 have HL := hid hL
 have HT := hid ht
 have hl64 : L ≤ 64 := by omega
 have HM : Hid (Mr w ((w.alloc (.cells #[.int .i64 fr, .int .i64 e.key.e, .int .i64 e.key.k, .int .i64 0, .int .i64 e.a, .int .i64 e.g, .int .i64 e.p, .int .i64 e.r, .int .i64 e.l] 53)).alloc (.cells #[.int .i64 0, .int .i64 0, .int .i64 0, .int .i64 0] 51)) (under fr 0 e)) := by
  have g := gal (gal (gr w) (.cells #[.int .i64 fr, .int .i64 e.key.e, .int .i64 e.key.k, .int .i64 0, .int .i64 e.a, .int .i64 e.g, .int .i64 e.p, .int .i64 e.r, .int .i64 e.l] 53)) (.cells #[.int .i64 0, .int .i64 0, .int .i64 0, .int .i64 0] 51)
  exact ⟨(At.new w #[.int .i64 fr, .int .i64 e.key.e, .int .i64 e.key.k, .int .i64 0, .int .i64 e.a, .int .i64 e.g, .int .i64 e.p, .int .i64 e.r, .int .i64 e.l] 53).more _, At.newAt (w.alloc (.cells #[.int .i64 fr, .int .i64 e.key.e, .int .i64 e.key.k, .int .i64 0, .int .i64 e.a, .int .i64 e.g, .int .i64 e.p, .int .i64 e.r, .int .i64 e.l] 53)) #[.int .i64 0, .int .i64 0, .int .i64 0, .int .i64 0] 51 (n := w.heap.size + 1) (by simp), g.below⟩
 have HR : Hid (addR fr l e = if evB (under fr 0 e) = true then (if 64 ≤ l.length ∨ 15 < ordI l e then (l, zeroK, 8) else (putL (under fr (ordI l e) e) l, (under fr (ordI l e) e).key, 0)) else (l, zeroK, 1)) := hid rfl
 clear hL ht hl
 go_enter Tryz.func48, Tryz.ntmps48
 go_upto_region 3 with fail
 generalize World.alloc (World.alloc w _) _ = w2 at HM ⊢
 obtain ⟨m0, m1, m2, m3, m4, m5, m6, m7, m8⟩ := HM.out.ev.nine
 cases hE : evB (under fr 0 e)
 case false =>
  rw [hE] at HR
  simp only [Bool.false_eq_true, if_false] at HR
  go_wp2_with (go_at_call 76; ((refine (rright_c (under fr 0 e) _).mono ?_); rintro r w3 ⟨rfl, g3⟩; rw [hE]; have HM3 := hid (HM.out.below g3.below); obtain ⟨k0, k1, k2, k3⟩ := HM3.out.key.four; have f0 := HM3.out.key.frozen 0; have f1 := HM3.out.key.frozen 1; have f2 := HM3.out.key.frozen 2; have f3 := HM3.out.key.frozen 3))
  refine bodyPost_ret (results_rkey rfl _ _ (w.heap.size + 1) rfl zeroK (HM3.out.key.put4 _ _ _ _)) rfl ?_
  rw [HR.out]
  have hB := bset4 HM3.out.old (c := w.heap.size + 1) (by omega) (.int .i64 0) (.int .i64 0) (.int .i64 0) (.int .i64 0)
  exact ⟨_, rfl, HV.out.below hB, hB, .inl rfl⟩
 rw [hE] at HR
 simp only [if_true] at HR
 go_wp2_with (go_at_call 76; ((refine (rright_c (under fr 0 e) _).mono ?_); rintro r w3 ⟨rfl, g3⟩; rw [hE]; have HM3 := hid (HM.out.below g3.below)))
 clear m0 m1 m2 m3 m4 m5 m6 m7 m8
 have hq0 : ordI (l.take 0) e = 0 := rfl
 go_loopw [9] (fun i wr => ∃ k q : Nat, k ≤ L ∧ i = .int .i64 k ∧ ordI (l.take k) e = q ∧ Mr w wr (under fr q e)) (fun i _ => L - (intOf i).toNat)
 case atStart => exact ⟨0, 0, Nat.zero_le _, rfl, rfl, HM3.out⟩
 case round =>
  obtain ⟨k, q, hk, rfl, hq, hMr⟩ := hrel
  have HMr := hid hMr
  have HQ := hid hq
  have hql : q ≤ k := by
   have := ord_le (l.take k) e
   rw [hq, List.length_take] at this
   omega
  have mm := hMr.ev
  dsimp only [under] at mm
  obtain ⟨m0, m1, m2, m3, m4, m5, m6, m7, m8⟩ := mm.nine
  clear mm
  by_cases hlt : k < L
  · obtain ⟨x, hx⟩ := get_lt HL.out hlt
    obtain ⟨b, o, rfl, hb, c0, c1, c2, c3, c4, c5, c6, c7, c8⟩ := (HT.out.below hMr.old).ev hx
    have hk1 : (k : Int) < (L : Int) := by omega
    have hk0 : (0 : Int) ≤ (k : Int) := by omega
    have HS := hid (ord_step hx e)
    clear hx hq hMr c4 c5 c6 c7 c8 c0 c3
    by_cases hE1 : x.key.e = e.key.e
    · have hd1 : (x.key.e == e.key.e) = true := by simpa using hE1
      by_cases hE2 : x.key.k = e.key.k
      · have hd2 : (x.key.k == e.key.k) = true := by simpa using hE2
        have HF : Hid (ordI (l.take (k + 1)) e = q + 1) := hid (by rw [HS.out, HQ.out]; simp [sameB, hE1, hE2])
        clear hE1 hE2
        go_wp2_with fail
        go_quiet (fail)
        have HMq := hid (HMr.out.below (bdn (br _) nq))
        have f3 := HMq.out.ev.frozen 3
        clear hd1 hd2
        go_wp2_with fail
        go_roundw
        case rel => exact ⟨k + 1, q + 1, by omega, by go_num, HF.out, by have := HMq.out.ord ((q : Int) + 1); simpa using this⟩
        case measure => simp [intOf]; omega
      · have hd2 : (x.key.k == e.key.k) = false := by simpa using hE2
        have HF : Hid (ordI (l.take (k + 1)) e = q) := hid (by rw [HS.out, HQ.out]; simp [sameB, hE2])
        clear hE1 hE2
        go_wp2_with fail
        go_quiet (fail)
        clear hd1 hd2
        go_wp2_with fail
        go_roundw
        case rel => exact ⟨k + 1, q, by omega, by go_num, HF.out, HMr.out.below (bdn (br _) _)⟩
        case measure => simp [intOf]; omega
    · have hd1 : (x.key.e == e.key.e) = false := by simpa using hE1
      have HF : Hid (ordI (l.take (k + 1)) e = q) := hid (by rw [HS.out, HQ.out]; simp [sameB, hE1])
      clear hE1
      go_wp2_with fail
      go_quiet (fail)
      clear hd1
      go_wp2_with fail
      go_roundw
      case rel => exact ⟨k + 1, q, by omega, by go_num, HF.out, HMr.out.below (bdn (br _) _)⟩
      case measure => simp [intOf]; omega
  · have htk : l.take k = l := List.take_of_length_le (by have := HL.out; omega)
    have hd0 : decide ((k : Int) < (L : Int)) = false := by simp; omega
    rw [htk] at HQ
    rw [HQ.out, HL.out] at HR
    obtain ⟨k0, k1, k2, k3⟩ := hMr.key.four
    have f0 := hMr.key.frozen 0
    have f1 := hMr.key.frozen 1
    have f2 := hMr.key.frozen 2
    have f3 := hMr.key.frozen 3
    clear htk hq hMr
    by_cases hF : 64 ≤ L ∨ 15 < q
    · rw [if_pos hF] at HR
      have fin : ∀ r, r = Ending.returned (.tuple #[.slice ao L cap, kv zeroK, .int .i64 8]) → (∃ v', r = .returned (.tuple #[v', kv (addR fr l e).2.1, .int .i64 (addR fr l e).2.2]) ∧ Evs ((((wr.setCell ⟨w.heap.size + 1, 0, none⟩ (.int .i64 0)).setCell ⟨w.heap.size + 1, 1, none⟩ (.int .i64 0)).setCell ⟨w.heap.size + 1, 2, none⟩ (.int .i64 0)).setCell ⟨w.heap.size + 1, 3, none⟩ (.int .i64 0)) v' (addR fr l e).1 ∧ Below w.heap.size w ((((wr.setCell ⟨w.heap.size + 1, 0, none⟩ (.int .i64 0)).setCell ⟨w.heap.size + 1, 1, none⟩ (.int .i64 0)).setCell ⟨w.heap.size + 1, 2, none⟩ (.int .i64 0)).setCell ⟨w.heap.size + 1, 3, none⟩ (.int .i64 0)) ∧ Frv w ((((wr.setCell ⟨w.heap.size + 1, 0, none⟩ (.int .i64 0)).setCell ⟨w.heap.size + 1, 1, none⟩ (.int .i64 0)).setCell ⟨w.heap.size + 1, 2, none⟩ (.int .i64 0)).setCell ⟨w.heap.size + 1, 3, none⟩ (.int .i64 0)) (.slice ao L cap) v') := by
       rintro r rfl
       rw [HR.out]
       have hB := bset4 HMr.out.old (c := w.heap.size + 1) (by omega) (.int .i64 0) (.int .i64 0) (.int .i64 0) (.int .i64 0)
       exact ⟨_, rfl, HV.out.below hB, hB, .inl rfl⟩
      have FIN := hid fin
      clear fin
      by_cases h1 : 64 ≤ L
      · have d1 : decide ((64 : Int) ≤ (L : Int)) = true := by simp; omega
        have d2 : (64 : Int) ≤ (L : Int) := by omega
        clear hF h1
        go_wp2_with fail
        refine bodyPost_ret (results_rkey rfl _ _ (w.heap.size + 1) rfl zeroK (HMr.out.key.put4 _ _ _ _)) rfl ?_
        exact FIN.out _ rfl
      · have d1 : decide ((64 : Int) ≤ (L : Int)) = false := by simp; omega
        have d2 : ¬ (64 : Int) ≤ (L : Int) := by omega
        have d3 : decide ((15 : Int) < (q : Int)) = true := by simp; omega
        have d4 : (15 : Int) < (q : Int) := by omega
        clear hF h1
        go_wp2_with fail
        refine bodyPost_ret (results_rkey rfl _ _ (w.heap.size + 1) rfl zeroK (HMr.out.key.put4 _ _ _ _)) rfl ?_
        exact FIN.out _ rfl
    · rw [if_neg hF] at HR
      have d1 : decide ((64 : Int) ≤ (L : Int)) = false := by simp; omega
      have d2 : ¬ (64 : Int) ≤ (L : Int) := by omega
      have d3 : decide ((15 : Int) < (q : Int)) = false := by simp; omega
      have d4 : ¬ (15 : Int) < (q : Int) := by omega
      clear hF
      go_upto_region 12 with fail
      go_region_with (go_at_call 77; refine (rput_c (.slice ao L cap) l (under fr q e) _ (HV.out.below (by first | exact HMr.out.old | exact bd1 HMr.out.old | exact bdn HMr.out.old _)) (by have := HL.out; omega)).mono ?_; rintro r w5 ⟨v', rfl, ho, g5⟩; have HM5 := hid (HMr.out.below (show Below wr.heap.size wr w5 by first | exact g5 | exact bt (bd1 (br wr)) g5 | exact bt (bdn (br wr) _) g5)); have n5 := HM5.out.ev; dsimp only [under] at n5; obtain ⟨n0, n1, n2, n3, n4, n5', n6, n7, n8⟩ := n5.nine; clear n5; obtain ⟨z0, z1, z2, z3⟩ := HM5.out.key.four; have y0 := HM5.out.key.frozen 0; have y1 := HM5.out.key.frozen 1; have y2 := HM5.out.key.frozen 2; have y3 := HM5.out.key.frozen 3; have HO := hid ho; clear ho)
      all_goals
       clear d1 d2 d3 d4
       go_wp2_with fail
       refine bodyPost_ret (results_rkey rfl _ _ (w.heap.size + 1) rfl (under fr q e).key (HM5.out.key.put4 _ _ _ _)) rfl ?_
       rw [HR.out]
       have hne := HM5.out.key.not_row HO.out (by decide)
       have hB := bset4 HM5.out.old (c := w.heap.size + 1) (by omega) (.int .i64 fr) (.int .i64 e.key.e) (.int .i64 e.key.k) (.int .i64 q)
       exact ⟨_, rfl, owns_sl (enc := ecs) (k := 9) (fun _ => rfl) (own_set (own_set (own_set (own_set HO.out hne _) hne _) hne _) hne _), hB, .inr (fun k hk => ⟨Nat.le_trans HMr.out.old.size (by have := (HO.out.lt k hk).1; simpa using this), by have := (HO.out.lt k hk).2; simpa using this⟩)⟩

end Go.Proofs.YtigjflacinlafaaGreatDoor.Ev
