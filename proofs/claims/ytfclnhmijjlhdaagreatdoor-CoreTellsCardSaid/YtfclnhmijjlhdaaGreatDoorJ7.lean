/- An event put among some in order, as the document says it; one more event at the end of a list of the call's own (layer 11, event). -/
/- Pages: Open, Add and List (layer 11, event). -/
import Derived.Test.YtfclnhmijjlhdaaGreatDoorJ6
import Derived.Test.YtfclnhmijjlhdaaGreatDoorEvF
import Derived.Laws.AppendOwnNone
import Derived.Test.YtfclnhmijjlhdaaGreatDoorEvIn
namespace Go.Proofs.YtfclnhmijjlhdaaGreatDoor.Ev
open Go.RowKit
open Go.Sort hiding Below
set_option linter.unusedVariables false

theorem cell_nine_new (w : World) (y : Ev) (t : TypeId) : ∀ j u, (ecs y)[j]? = some u → (w.alloc (.cells #[.int .i64 y.key.f, .int .i64 y.key.e, .int .i64 y.key.k, .int .i64 y.key.o, .int .i64 y.a, .int .i64 y.g, .int .i64 y.p, .int .i64 y.r, .int .i64 y.l] t)).cell? ((⟨w.heap.size, 0, none⟩ : Addr).add j) = some u := by
 intro j u hj
 rw [Addr.add_lit, Nat.zero_add, cell_of_row _ _ _ _ _ _ (At.new w _ t)]
 simpa using hj
/-- one more event at the end of a list of the call's own. -/
theorem app_ev {ops : Array Oper} {rest : List Oper} {o : Oper} {a : Act} {Q : Exit → Act → World → Prop} (w : World) (hgd : o.guard = none) (s x : Operand)
 (ho : o.op = .call { callee := .builtin .append, args := #[s, x], argTypes := #[49, 49] })
 (B : Nat) (v : Value) (l : List Ev) (hs : a.eval s = v) (hown : w.ownsRow B 120 9 v l.length (flat ecs l)) (W0 : World) (hB : Below B W0 w) (hB0 : B ≤ W0.heap.size) (y : Ev) (hx : a.eval x = .slice (some ⟨w.heap.size, 0, none⟩) 1 1) (hlen : l.length ≤ 4096)
 (h : ∀ v' w', w'.ownsRow B 120 9 v' (l ++ [y]).length (flat ecs (l ++ [y])) → Below B W0 w' → w.grownBy w' v.ownBlock → (v'.ownBlock = v.ownBlock ∨ ∃ b, v'.ownBlock = some b ∧ w.heap.size ≤ b) → wpList Tryz.prog ops Q rest (a.put o.dst v') w') :
 wpList Tryz.prog ops Q (o :: rest) a (w.alloc (.cells #[.int .i64 y.key.f, .int .i64 y.key.e, .int .i64 y.key.k, .int .i64 y.key.o, .int .i64 y.a, .int .i64 y.g, .int .i64 y.p, .int .i64 y.r, .int .i64 y.l] 120)) := by
 obtain ⟨i0, hi, hz0, hz1, hz2⟩ := info_parts info_event
 have hsz := hB.size
 refine wpList_append_own_at _ hgd s x 49 ho B 120 i0 (ev zeroE) 9 72 Tryz.underlying49 hi hz0 hz1 hz2 rfl (by decide) v l.length (flat ecs l) hs (hown.alloc _) ⟨w.heap.size, 0, none⟩ 1 1 (ecs y) hx rfl (cell_nine_new w y _) (ecs_one y) (by unfold maxLen; omega) (by omega) (by simp; omega) ?_
 intro v' w' h1 h2 _ h3
 have hg : w.grownBy w' v.ownBlock := (World.grownBy_alloc w _ v.ownBlock).trans h2
 refine h v' w' ?_ ?_ hg ?_
 · rw [flat_snoc, List.length_append, List.length_singleton]
   exact h1
 · exact hB.grown hg (by omega) (fun k e => (hown.lt k e).1)
 · rcases h3 with h3 | h3
   · exact .inl h3
   · exact .inr ⟨_, h3, by simp⟩

theorem own_gr {w w' : World} {B n k : Nat} {t : TypeId} {v : Value} {xs : List Value} (h : w.ownsRow B t k v n xs) (g : Gr w w') : w'.ownsRow B t k v n xs := h.kept g.grownBy (by cases v.ownBlock <;> simp)
theorem below_gr {W0 w w' : World} {B : Nat} (h : Below B W0 w) (hB : B ≤ W0.heap.size) (g : Gr w w') : Below B W0 w' := h.trans (g.below.mono (Nat.le_trans hB h.size))
theorem owns_base {w : World} {B B' n k : Nat} {t : TypeId} {v : Value} {xs : List Value} (h : w.ownsRow B t k v n xs) (hB : B' ≤ B) : w.ownsRow B' t k v n xs := by
 refine ⟨h.1, ?_⟩
 rcases h.2 with h | ⟨g, cap, cur, e, h1, h2⟩
 · exact .inl h
 · exact .inr ⟨g, cap, cur, e, Nat.le_trans hB h1, h2⟩

theorem put_some {e : Ev} : ∀ {a : List Ev} (b : List Ev), (a.any fun x => decide (cmpK e.key x.key ≤ 0)) = true → putL e (a ++ b) = putL e a ++ b
 | [], _, h => by simp at h
 | y :: a, b, h => by
  rw [List.cons_append]
  unfold putL
  split
  · simp
  · rename_i hc
    have : (a.any fun x => decide (cmpK e.key x.key ≤ 0)) = true := by simpa [hc] using h
    rw [put_some b this]
    simp
theorem put_none {e : Ev} : ∀ {a : List Ev} (b : List Ev), (a.any fun x => decide (cmpK e.key x.key ≤ 0)) = false → putL e (a ++ b) = a ++ putL e b
 | [], _, _ => rfl
 | y :: a, b, h => by
  have hc : ¬ cmpK e.key y.key ≤ 0 := by
   intro hc
   simp [hc] at h
  have h2 : (a.any fun x => decide (cmpK e.key x.key ≤ 0)) = false := by simpa [hc] using h
  rw [List.cons_append]
  conv => lhs; unfold putL
  rw [if_neg hc, put_none b h2]
  rfl
/-- what Put has made behind k events. -/
def half (e : Ev) (a : List Ev) : List Ev := if (a.any fun x => decide (cmpK e.key x.key ≤ 0)) = true then putL e a else a
theorem half_len (e : Ev) (a : List Ev) : (half e a).length ≤ a.length + 1 := by
 unfold half
 split
 · rw [put_len]; exact Nat.le_refl _
 · omega

set_option maxRecDepth 100000 in
set_option maxHeartbeats 4000000 in
theorem rput_c (v : Value) (l : List Ev) (e : Ev) (w : World) (h : Evs w v l) (hl : l.length ≤ 1000) :
 Calls Tryz.prog 232 #[v, ev e] w fun e' w' => ∃ v', e' = .returned v' ∧ w'.ownsRow w.heap.size 120 9 v' (putL e l).length (flat ecs (putL e l)) ∧ Below w.heap.size w w' := by
 obtain ⟨ao, L, cap, rfl, hL, hc, hm, ht⟩ := h
 have HL := hid hL
 have hL1 : L ≤ 1000 := by omega
 have HT := hid ht
 clear hL ht hl
 obtain ⟨w1, hw1⟩ : ∃ w1, w1 = w.alloc (.cells #[.int .i64 e.key.f, .int .i64 e.key.e, .int .i64 e.key.k, .int .i64 e.key.o, .int .i64 e.a, .int .i64 e.g, .int .i64 e.p, .int .i64 e.r, .int .i64 e.l] 120) := ⟨_, rfl⟩
 have HA : Hid (At w1 w.heap.size #[.int .i64 e.key.f, .int .i64 e.key.e, .int .i64 e.key.k, .int .i64 e.key.o, .int .i64 e.a, .int .i64 e.g, .int .i64 e.p, .int .i64 e.r, .int .i64 e.l] 120) := hid (by rw [hw1]; exact At.new w _ _)
 have HB1 : Hid (Below w.heap.size w w1) := hid (by rw [hw1]; exact bal (br w) _)
 obtain ⟨B, hB⟩ : ∃ B, B = w1.heap.size := ⟨_, rfl⟩
 have hB0 : B ≤ w1.heap.size := by omega
 have hBw : w.heap.size + 1 = B := by rw [hB, hw1]; simp
 have hO0 : (w1.alloc (.cells #[] 120)).ownsRow B 120 9 (.slice (some ⟨B, 0, none⟩) 0 0) 0 [] := by
  have := World.ownsRow_made (e := 120) (size := 9) w1 #[] 0 hB0 (Nat.zero_le _) (by simp)
  rw [← hB] at this
  exact this
 have hW0 : Below B w1 (w1.alloc (.cells #[] 120)) := (Below.refl _ w1).alloc hB0 _
 have Hw1 := hid hw1
 clear hw1 hB
 go_enter Tryz.func232, Tryz.ntmps232
 go_wp2_with fail
 rw [← Hw1.out]
 go_loopg [5, 6, 7] L (fun gk u t i wr => ∃ k : Nat, gk + k = L ∧ i = .int .i64 k ∧ t = .bool ((l.take k).any fun x => decide (cmpK e.key x.key ≤ 0)) ∧ wr.ownsRow B 120 9 u (half e (l.take k)).length (flat ecs (half e (l.take k))) ∧ Below B w1 wr)
 case atStart => exact ⟨0, by omega, rfl, rfl, hO0, hW0⟩
 case round =>
  obtain ⟨k, hk, rfl, rfl, hown, hBl⟩ := hrel
  have HO := hid hown
  have HBl := hid hBl
  clear hown hBl hO0 hW0
  have hhl := half_len e (l.take k)
  have hhk : (l.take k).length ≤ k := by simp; omega
  by_cases hlt : k < L
  · obtain ⟨x, hx⟩ := get_lt HL.out hlt
    have htk : l.take (k + 1) = l.take k ++ [x] := by rw [List.take_add_one, hx]; rfl
    have hbw : Below w.heap.size w wr := HB1.out.trans (HBl.out.mono (by omega))
    obtain ⟨b, o, rfl, hb, c0, c1, c2, c3, c4, c5, c6, c7, c8⟩ := (HT.out.below hbw).ev hx
    obtain ⟨e0, e1, e2, e3, e4, e5, e6, e7, e8⟩ := (HA.out.belowB HBl.out (by omega)).nine
    have he : w.heap.size < wr.heap.size := by have := hbw.size; have := HBl.out.size; omega
    have hK : Hid (∀ W, Gr wr W → W.cell? ⟨b, o + k * 9, none⟩ = some (.int .i64 x.key.f) ∧ W.cell? ⟨b, o + k * 9 + 1, none⟩ = some (.int .i64 x.key.e) ∧ W.cell? ⟨b, o + k * 9 + 2, none⟩ = some (.int .i64 x.key.k) ∧ W.cell? ⟨b, o + k * 9 + 3, none⟩ = some (.int .i64 x.key.o) ∧ W.cell? ⟨b, o + k * 9 + 4, none⟩ = some (.int .i64 x.a) ∧ W.cell? ⟨b, o + k * 9 + 5, none⟩ = some (.int .i64 x.g) ∧ W.cell? ⟨b, o + k * 9 + 6, none⟩ = some (.int .i64 x.p) ∧ W.cell? ⟨b, o + k * 9 + 7, none⟩ = some (.int .i64 x.r) ∧ W.cell? ⟨b, o + k * 9 + 8, none⟩ = some (.int .i64 x.l) ∧ W.cell? ⟨w.heap.size, 0, none⟩ = some (.int .i64 e.key.f) ∧ W.cell? ⟨w.heap.size, 1, none⟩ = some (.int .i64 e.key.e) ∧ W.cell? ⟨w.heap.size, 2, none⟩ = some (.int .i64 e.key.k) ∧ W.cell? ⟨w.heap.size, 3, none⟩ = some (.int .i64 e.key.o) ∧ W.cell? ⟨w.heap.size, 4, none⟩ = some (.int .i64 e.a) ∧ W.cell? ⟨w.heap.size, 5, none⟩ = some (.int .i64 e.g) ∧ W.cell? ⟨w.heap.size, 6, none⟩ = some (.int .i64 e.p) ∧ W.cell? ⟨w.heap.size, 7, none⟩ = some (.int .i64 e.r) ∧ W.cell? ⟨w.heap.size, 8, none⟩ = some (.int .i64 e.l)) := hid (fun W g => ⟨(g.below.cell (p := ⟨b, _, none⟩) hb).trans c0, (g.below.cell (p := ⟨b, _, none⟩) hb).trans c1, (g.below.cell (p := ⟨b, _, none⟩) hb).trans c2, (g.below.cell (p := ⟨b, _, none⟩) hb).trans c3, (g.below.cell (p := ⟨b, _, none⟩) hb).trans c4, (g.below.cell (p := ⟨b, _, none⟩) hb).trans c5, (g.below.cell (p := ⟨b, _, none⟩) hb).trans c6, (g.below.cell (p := ⟨b, _, none⟩) hb).trans c7, (g.below.cell (p := ⟨b, _, none⟩) hb).trans c8, (g.below.cell (p := ⟨w.heap.size, _, none⟩) he).trans e0, (g.below.cell (p := ⟨w.heap.size, _, none⟩) he).trans e1, (g.below.cell (p := ⟨w.heap.size, _, none⟩) he).trans e2, (g.below.cell (p := ⟨w.heap.size, _, none⟩) he).trans e3, (g.below.cell (p := ⟨w.heap.size, _, none⟩) he).trans e4, (g.below.cell (p := ⟨w.heap.size, _, none⟩) he).trans e5, (g.below.cell (p := ⟨w.heap.size, _, none⟩) he).trans e6, (g.below.cell (p := ⟨w.heap.size, _, none⟩) he).trans e7, (g.below.cell (p := ⟨w.heap.size, _, none⟩) he).trans e8⟩)
    have HTK := hid htk
    have HX := hid hx
    have hk1 : (k : Int) < (L : Int) := by omega
    have hk0 : (0 : Int) ≤ (k : Int) := by omega
    clear hx htk hbw
    cases hP : (l.take k).any fun x => decide (cmpK e.key x.key ≤ 0)
    case true =>
     have HN : Hid (half e (l.take (k + 1)) = half e (l.take k) ++ [x]) := hid (by
      unfold half
      rw [HTK.out, List.any_append, hP, put_some _ hP]
      simp)
     have HP2 : Hid (((l.take (k + 1)).any fun x => decide (cmpK e.key x.key ≤ 0)) = true) := hid (by rw [HTK.out, List.any_append, hP]; rfl)
     clear hP
     go_wp2_with fail
     refine wp_region_noPanic ?_
     refine wp_region_held_drew (S := (fun W => Gr wr W)) (by kernel_rfl) (by first | exact gd1 (gr _) | exact gr _) (fun hHeld => ?_)
     refine tkA 0 15 ?_
     simp only [pa, pu2, pu3]
     refine tkA 1 16 ?_
     simp only [pa, pu2, pu3]
     refine tkA 2 17 ?_
     simp only [pa, pu2, pu3]
     refine tkS 3 18 ?_
     simp only [pa, pu2, pu3]
     refine tkS 4 19 ?_
     simp only [pa, pu2, pu3]
     refine tkS 5 20 ?_
     simp only [pa, pu2, pu3]
     refine tkS 6 21 ?_
     simp only [pa, pu2, pu3]
     refine tkS 7 22 ?_
     simp only [pa, pu2, pu3]
     refine tkS 8 23 ?_
     simp only [pa, pu2, pu3]
     refine tkS 9 24 ?_
     simp only [pa, pu2, pu3]
     refine tkS 10 25 ?_
     simp only [pa, pu2, pu3]
     refine tkS 11 26 ?_
     simp only [pa, pu2, pu3]
     refine tkA 12 27 ?_
     simp only [pa, pu2, pu3]
     refine wpAnyH_done (by kernel_rfl) ?_ _
     refine NoPanic.normal ?_
     clear c0 c1 c2 c3 c4 c5 c6 c7 c8 e0 e1 e2 e3 e4 e5 e6 e7 e8
     obtain ⟨c0, c1, c2, c3, c4, c5, c6, c7, c8, e0, e1, e2, e3, e4, e5, e6, e7, e8⟩ := hK.out _ (gd1 (gr wr))
     go_wp2_with (at_builtin; refine app_ev _ rfl (.tmp 32) (.tmp 37) rfl B _ _ rfl (own_gr HO.out (gd1 (gr wr))) w1 (below_gr HBl.out hB0 (gd1 (gr wr))) hB0 x rfl (by omega) ?_; intro v2 w2 hown2 hB2 _ _)
     go_roundg (gk - 1)
     case measure => omega
     case rel => exact ⟨k + 1, by omega, by go_num, by rw [HP2.out], by rw [HN.out]; exact hown2, hB2⟩
    case false =>
     have HH : Hid (half e (l.take k) = l.take k) := hid (by unfold half; rw [hP]; simp)
     by_cases hq : cmpK e.key x.key ≤ 0
     · have HN : Hid (half e (l.take (k + 1)) = (l.take k ++ [e]) ++ [x]) := hid (by
        unfold half
        rw [HTK.out, List.any_append, hP, put_none _ hP]
        simp [hq, putL])
       have HP2 : Hid (((l.take (k + 1)).any fun x => decide (cmpK e.key x.key ≤ 0)) = true) := hid (by rw [HTK.out, List.any_append, hP]; simp [hq])
       have hd : decide (cmpK e.key x.key ≤ 0) = true := by simpa using hq
       rw [HH.out] at HO hhl
       clear hP hq
       go_wp2_with fail
       refine wp_region_noPanic ?_
       refine wp_region_held_drew (S := (fun W => Gr wr W)) (by kernel_rfl) (by first | exact gd1 (gr _) | exact gr _) (fun hHeld => ?_)
       refine tkA 0 15 ?_
       simp only [pa, pu2, pu3]
       refine tkA 1 16 ?_
       simp only [pa, pu2, pu3]
       refine tkA 2 17 ?_
       simp only [pa, pu2, pu3]
       refine tkA 3 18 ?_
       simp only [pa, pu2, pu3]
       refine tkL 4 19 hK.out ?_
       simp only [pa, pu2, pu3]
       refine tkA 5 20 ?_
       simp only [pa, pu2, pu3]
       refine tkA 6 21 ?_
       simp only [pa, pu2, pu3]
       refine tkA 7 22 ?_
       simp only [pa, pu2, pu3]
       refine tkA 8 23 ?_
       simp only [pa, pu2, pu3]
       refine tkL 9 24 hK.out ?_
       simp only [pa, pu2, pu3]
       refine onA 10 (fun K hKK => ?_)
       go_simp
       ((refine (rcompare_c e.key x.key _).mono ?_); rintro e1 y3 ⟨rfl, hy3⟩; have hgy3 := gt (show Gr wr _ by first | with_reducible assumption | exact gd1 (gr _)) hy3; clear hy3)
       dsimp only
       refine hKK.out _ _ hgy3 (fun hHeld => ?_)
       clear hKK K
       (try simp only [Act.put, pu1, pu2, pu3])
       refine tkA 11 26 ?_
       simp only [pa, pu2, pu3]
       refine tkA 12 27 ?_
       simp only [pa, pu2, pu3]
       refine wpAnyH_done (by kernel_rfl) ?_ _
       refine NoPanic.normal ?_
       clear c0 c1 c2 c3 c4 c5 c6 c7 c8 e0 e1 e2 e3 e4 e5 e6 e7 e8
       obtain ⟨c0, c1, c2, c3, c4, c5, c6, c7, c8, e0, e1, e2, e3, e4, e5, e6, e7, e8⟩ := hK.out _ hgy3
       go_wp2_with (first
        | (at_builtin; refine app_ev _ rfl (.tmp 28) (.tmp 30) rfl B _ _ rfl (own_gr HO.out hgy3) w1 (below_gr HBl.out hB0 hgy3) hB0 e rfl (by omega) ?_; intro v2 w2 hown2 hB2 _ _; have hbw2 : Below w.heap.size w w2 := HB1.out.trans (hB2.mono (by omega)); obtain ⟨b2, o2, eo, hb2, f0, f1, f2, f3, f4, f5, f6, f7, f8⟩ := (HT.out.below hbw2).ev HX.out; injection eo with eo; injection eo with eb eo; subst eb eo)
        | (at_builtin; refine app_ev _ rfl (.tmp 32) (.tmp 37) rfl B _ _ rfl hown2 w1 hB2 hB0 x rfl (by simp; omega) ?_; intro v3 w3 hown3 hB3 _ _))
       go_roundg (gk - 1)
       case measure => omega
       case rel => exact ⟨k + 1, by omega, by go_num, by rw [HP2.out], by rw [HN.out]; exact hown3, hB3⟩
     · have HN : Hid (half e (l.take (k + 1)) = l.take k ++ [x]) := hid (by
        unfold half
        rw [HTK.out, List.any_append, hP]
        simp [hq])
       have HP2 : Hid (((l.take (k + 1)).any fun x => decide (cmpK e.key x.key ≤ 0)) = false) := hid (by rw [HTK.out, List.any_append, hP]; simp [hq])
       have hd : decide (cmpK e.key x.key ≤ 0) = false := by simpa using hq
       rw [HH.out] at HO hhl
       clear hP
       go_wp2_with fail
       refine wp_region_noPanic ?_
       refine wp_region_held_drew (S := (fun W => Gr wr W)) (by kernel_rfl) (by first | exact gd1 (gr _) | exact gr _) (fun hHeld => ?_)
       refine tkA 0 15 ?_
       simp only [pa, pu2, pu3]
       refine tkA 1 16 ?_
       simp only [pa, pu2, pu3]
       refine tkA 2 17 ?_
       simp only [pa, pu2, pu3]
       refine tkA 3 18 ?_
       simp only [pa, pu2, pu3]
       refine tkL 4 19 hK.out ?_
       simp only [pa, pu2, pu3]
       refine tkA 5 20 ?_
       simp only [pa, pu2, pu3]
       refine tkA 6 21 ?_
       simp only [pa, pu2, pu3]
       refine tkA 7 22 ?_
       simp only [pa, pu2, pu3]
       refine tkA 8 23 ?_
       simp only [pa, pu2, pu3]
       refine tkL 9 24 hK.out ?_
       simp only [pa, pu2, pu3]
       refine onA 10 (fun K hKK => ?_)
       go_simp
       ((refine (rcompare_c e.key x.key _).mono ?_); rintro e1 y3 ⟨rfl, hy3⟩; have hgy3 := gt (show Gr wr _ by first | with_reducible assumption | exact gd1 (gr _)) hy3; clear hy3)
       dsimp only
       refine hKK.out _ _ hgy3 (fun hHeld => ?_)
       clear hKK K
       (try simp only [Act.put, pu1, pu2, pu3])
       refine tkA 11 26 ?_
       simp only [pa, pu2, pu3]
       refine tkA 12 27 ?_
       simp only [pa, pu2, pu3]
       refine wpAnyH_done (by kernel_rfl) ?_ _
       refine NoPanic.normal ?_
       clear c0 c1 c2 c3 c4 c5 c6 c7 c8 e0 e1 e2 e3 e4 e5 e6 e7 e8
       obtain ⟨c0, c1, c2, c3, c4, c5, c6, c7, c8, e0, e1, e2, e3, e4, e5, e6, e7, e8⟩ := hK.out _ hgy3
       go_wp2_with (at_builtin; refine app_ev _ rfl (.tmp 32) (.tmp 37) rfl B _ _ rfl (own_gr HO.out hgy3) w1 (below_gr HBl.out hB0 hgy3) hB0 x rfl (by omega) ?_; intro v2 w2 hown2 hB2 _ _)
       go_roundg (gk - 1)
       case measure => omega
       case rel => exact ⟨k + 1, by omega, by go_num, by rw [HP2.out], by rw [HN.out]; exact hown2, hB2⟩
  · have htl : l.take k = l := List.take_of_length_le (by have := HL.out; omega)
    rw [htl] at HO hhl ⊢
    have hll := HL.out
    obtain ⟨e0, e1, e2, e3, e4, e5, e6, e7, e8⟩ := (HA.out.belowB HBl.out (by omega)).nine
    have hd0 : decide ((k : Int) < (L : Int)) = false := by simp; omega
    have HLL := hid hll
    clear htl hll
    cases hP : l.any fun x => decide (cmpK e.key x.key ≤ 0)
    case true =>
     have HN : Hid (half e l = putL e l) := hid (by unfold half; rw [hP]; simp)
     rw [HN.out] at HO
     clear hP
     go_wp2_with fail
     go_ret
     exact ⟨_, rfl, owns_base HO.out (by omega), HB1.out.trans (HBl.out.mono (by omega))⟩
    case false =>
     have HN : Hid (putL e l = l ++ [e]) := hid (by have := put_none (e := e) [] hP; simpa [putL] using this)
     have HH : Hid (half e l = l) := hid (by unfold half; rw [hP]; simp)
     rw [HH.out] at HO
     clear hP
     go_wp2_with (at_builtin; refine app_ev _ rfl (.tmp 41) (.tmp 43) rfl B _ _ rfl HO.out w1 HBl.out hB0 e rfl (by have := HLL.out; omega) ?_; intro v2 w2 hown2 hB2 _ _)
     go_ret
     rw [HN.out]
     exact ⟨_, rfl, owns_base hown2 (by omega), HB1.out.trans (hB2.mono (by omega))⟩

end Go.Proofs.YtfclnhmijjlhdaaGreatDoor.Ev

namespace Go.Proofs.YtfclnhmijjlhdaaGreatDoor.Ev
open Go.RowKit
open Go.Proofs.YtfclnhmijjlhdaaGreatDoor.Rg hiding hid
set_option linter.unusedVariables false

theorem insert_c (n₀ n cap i vb : Nat) (ao : Option Addr) (y : Ev) (xs : List Value) (w : World) (h : w.ownsRow n₀ 120 9 (.slice ao n cap) n xs) (h1 : ∀ u ∈ xs, u.oneCell' = true) (hv : NewAt w vb y) (hvg : ∀ a, ao = some a → vb ≠ a.block) (hi : i ≤ n) (hn : n ≤ 4096) (hb : n₀ ≤ w.heap.size) :
 Calls Tryz.prog 183 #[.slice ao n cap, .int .i64 i, .slice (some ⟨vb, 0, none⟩) 1 1] w fun e w' => ∃ ao' cap', e = .returned (.slice ao' (n + 1) cap') ∧
  w'.ownsRow n₀ 120 9 (.slice ao' (n + 1) cap') (n + 1) (xs.take (i * 9) ++ (ecs y) ++ xs.drop (i * 9)) ∧ w.grownBy w' (Value.ownBlock (.slice ao n cap)) ∧ Rg.Near ao ao' w.heap.size := by
 by_cases he : i = n
 · subst he
   have e1 : xs.take (i * 9) = xs := List.take_of_length_le (by rw [h.1]; omega)
   have e2 : xs.drop (i * 9) = [] := List.drop_eq_nil_of_le (by rw [h.1]; omega)
   rw [e1, e2, List.append_nil]
   exact insert_end n₀ i cap vb ao y xs w h hv hn hb
 · rcases h.2 with ⟨h', rfl⟩ | ⟨g, cap', cur, h', _⟩
   · omega
   · cases h'
     by_cases hr : n + 1 ≤ cap
     · refine (insert_room n₀ g n cap i vb y xs w h h1 hv (hvg _ rfl) (by omega) hr hn).mono ?_
       rintro e w' ⟨rfl, ho, hg⟩
       exact ⟨_, _, rfl, ho, hg, Rg.Near.refl _ _⟩
     · refine (insert_grow n₀ g n cap i vb y xs w h h1 hv (by omega) (by omega) hn hb).mono ?_
       rintro e w' ⟨c', rfl, ho, hB⟩
       refine ⟨_, c', rfl, ho, ⟨hB.os, hB.tape, hB.output, hB.size, fun k hk _ => hB.block k hk⟩, ?_⟩
       rintro a' e
       cases e
       exact .inr (Nat.le_refl _)

theorem ins_keeps {w w1 : World} {n₀ t e b cap : Nat} {cs : List Value} {ao : Option Addr} {n : Nat} {xs : List Value} (h : Held w n₀ t e 9 b cs ao n cap xs) (hte : t ≠ e) (hg : w.grownBy w1 (Value.ownBlock (.slice ao n cap))) :
 Keeps (Foot b ao) w w1 ∧ w1.heap[b]? = w.heap[b]? := by
 refine ⟨(Keeps.refl _ w).grown hg ?_, hg.block b h.lt ?_⟩
 · intro k hk _
   cases ao with
   | none => simp [Value.ownBlock] at hk
   | some a => exact .inr ⟨a, rfl, by simpa [Value.ownBlock] using hk.symm⟩
 · intro e'
   cases ao with
   | none => simp [Value.ownBlock] at e'
   | some a => exact h.apart hte a rfl (by simpa [Value.ownBlock] using e'.symm)


theorem put_lo (x : Ev) : ∀ l : List Ev, putL x l = l.take (lo (keys l) x.key) ++ [x] ++ l.drop (lo (keys l) x.key)
 | [] => rfl
 | y :: l => by
  have ih := put_lo x l
  by_cases h : ltK y.key x.key
  · have e : lo (keys (y :: l)) x.key = lo (keys l) x.key + 1 := by simp [lo, keys, h]
    rw [e]
    conv => lhs; unfold putL
    rw [if_neg (by rw [cmpK_le]; simpa using h), ih]
    simp
  · have e : lo (keys (y :: l)) x.key = 0 := by simp [lo, keys, h]
    rw [e]
    conv => lhs; unfold putL
    rw [if_pos (by rw [cmpK_le]; exact h)]
    simp

/-- the event under the page's frame, first of its emitter and kind. -/
def under (fr o : Int) (e : Ev) : Ev := ⟨⟨fr, e.key.e, e.key.k, o⟩, e.a, e.g, e.p, e.r, e.l⟩
/-- which number it gets. -/
def ordI (l : List Ev) (e : Ev) : Nat := (keys l).countP (sameB e.key.e e.key.k)
/-- what Add makes of a page: its events, the key, and the error. -/
def addR (fr : Int) (l : List Ev) (e : Ev) : List Ev × Ky × Int :=
 if evB (under fr 0 e) = true then (if 64 ≤ l.length ∨ 15 < ordI l e then (l, zeroK, 8) else (putL (under fr (ordI l e) e) l, (under fr (ordI l e) e).key, 0)) else (l, zeroK, 1)

/-- a page in memory. -/
abbrev Pg (w : World) (n₀ b : Nat) (fr : Int) (ao : Option Addr) (cap : Nat) (l : List Ev) : Prop := Held w n₀ 153 120 9 b [.int .i64 fr] ao l.length cap (flat ecs l)

theorem Pg.sl {w : World} {n₀ b : Nat} {fr : Int} {ao : Option Addr} {cap : Nat} {l : List Ev} (h : Pg w n₀ b fr ao cap l) : Evs w (.slice ao l.length cap) l := owns_sl (enc := ecs) (k := 9) (fun _ => rfl) h.row
theorem Pg.at {w : World} {n₀ b : Nat} {fr : Int} {ao : Option Addr} {cap : Nat} {l : List Ev} (h : Pg w n₀ b fr ao cap l) : At w b #[.int .i64 fr, .slice ao l.length cap] 153 := h.block

theorem open_c (fr : Int) (n₀ : Nat) (w : World) (hn : n₀ ≤ w.heap.size) (hf : inB fr 0 1073741824 = true) :
 Calls Tryz.prog 61 #[.int .i64 fr] w fun e w' => e = .returned (.tuple #[.pointer (some ⟨w.heap.size, 0, none⟩), .int .i64 0]) ∧ Pg w' n₀ w.heap.size fr none 0 [] ∧ Below w.heap.size w w' := by
 have hN : Pg (w.alloc (.cells #[.int .i64 fr, .slice none 0 0] 153)) n₀ w.heap.size fr none 0 [] := Held.new w n₀ 153 120 9 [.int .i64 fr] hn
 go_enter Tryz.func61, Tryz.ntmps61
 go_wp2_with (go_at_call 100; ((with_reducible refine (isframe_c _ _).mono ?_); rintro e w' ⟨rfl, rfl⟩; rw [hf]))
 go_ret2
 exact ⟨rfl, hN, bal (br w) _⟩
theorem open_no (fr : Int) (w : World) (hf : inB fr 0 1073741824 = false) :
 Calls Tryz.prog 61 #[.int .i64 fr] w fun e w' => e = .returned (.tuple #[.pointer none, .int .i64 1]) ∧ w = w' := by
 go_enter Tryz.func61, Tryz.ntmps61
 go_wp2_with (go_at_call 100; ((with_reducible refine (isframe_c _ _).mono ?_); rintro e w' ⟨rfl, rfl⟩; rw [hf]))
 go_ret2
 exact ⟨rfl, rfl⟩

theorem list_nil (w : World) : Calls Tryz.prog 66 #[.pointer none] w fun e w' => e = .returned (.slice none 0 0) ∧ w = w' := by
 go_enter Tryz.func66, Tryz.ntmps66
 go_wp2_with fail
 go_ret
 exact ⟨rfl, rfl⟩
theorem list_c (w : World) {n₀ b : Nat} {fr : Int} {ao : Option Addr} {cap : Nat} {l : List Ev} (h : Pg w n₀ b fr ao cap l) (hl : l.length ≤ 4096) :
 Calls Tryz.prog 66 #[.pointer (some ⟨b, 0, none⟩)] w fun e w' => ∃ v, e = .returned v ∧ Evs w' v l ∧ Below w.heap.size w w' := by
 obtain ⟨p0, p1⟩ := h.at.two
 have HC := hid (clone_c _ l w h.sl hl)
 clear h
 go_enter Tryz.func66, Tryz.ntmps66
 go_wp2_with (go_at_call 113; ((with_reducible refine HC.out.mono ?_); rintro e w' ⟨v, rfl, ho, hb⟩))
 go_ret
 exact ⟨_, rfl, owns_sl (enc := ecs) (k := 9) (fun _ => rfl) ho, hb⟩

end Go.Proofs.YtfclnhmijjlhdaaGreatDoor.Ev
