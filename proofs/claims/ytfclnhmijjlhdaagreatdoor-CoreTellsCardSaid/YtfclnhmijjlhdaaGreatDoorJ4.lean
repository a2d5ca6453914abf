/- What the library's search answers on a list in order: how many keys stand ahead of a key, and whether it is there (layer 11, event). -/
/- What the library's search answers on events in order (layer 11, event). -/
import Derived.Test.YtfclnhmijjlhdaaGreatDoorEvE
import Derived.Deep.LoopGhost
namespace Go.Proofs.YtfclnhmijjlhdaaGreatDoor.Ev
open Go.RowKit Go.Sort
set_option linter.unusedVariables false

/-- how many keys stand ahead of q. -/
def lo (ks : List Ky) (q : Ky) : Nat := (ks.takeWhile fun k => decide (ltK k q)).length
theorem lo_le (ks : List Ky) (q : Ky) : lo ks q ≤ ks.length := (List.takeWhile_prefix _).length_le
theorem lo_lt {ks : List Ky} (h : up ks) (q : Ky) (j : Nat) (p : Ky) (hp : ks[j]? = some p) : j < lo ks q ↔ ltK p q := by
 obtain ⟨t, ht⟩ := List.takeWhile_prefix (l := ks) (fun k => decide (ltK k q))
 constructor
 · intro hj
   have hm : p ∈ ks.takeWhile fun k => decide (ltK k q) := by
    unfold lo at hj
    rw [← ht, List.getElem?_append_left hj] at hp
    exact List.mem_of_getElem? hp
   have := List.all_takeWhile (p := fun k => decide (ltK k q)) (l := ks)
   rw [List.all_eq_true] at this
   simpa using this p hm
 · intro hlt
   rcases Nat.lt_or_ge j (lo ks q) with hj | hj
   · exact hj
   exfalso
   obtain ⟨hjl, rfl⟩ := List.getElem?_eq_some_iff.1 hp
   have hlen : lo ks q < ks.length := by omega
   have hn : ¬ ltK ks[lo ks q] q := by
    have hd : ks.dropWhile (fun k => decide (ltK k q)) = ks.drop (lo ks q) := by
     have h1 := List.takeWhile_append_dropWhile (p := fun k => decide (ltK k q)) (l := ks)
     have h2 : ks.drop (lo ks q) = (ks.takeWhile (fun k => decide (ltK k q)) ++ ks.dropWhile (fun k => decide (ltK k q))).drop (ks.takeWhile (fun k => decide (ltK k q))).length := by rw [h1]; rfl
     rw [h2, List.drop_left]
    have hne : ks.dropWhile (fun k => decide (ltK k q)) ≠ [] := by
     rw [hd]
     intro h0
     have := congrArg List.length h0
     simp at this
     omega
    have := List.head_dropWhile_not (fun k => decide (ltK k q)) hne
    have he : (ks.dropWhile (fun k => decide (ltK k q))).head hne = ks[lo ks q] := by
     have : (ks.dropWhile (fun k => decide (ltK k q))).head? = some ks[lo ks q] := by
      rw [hd, List.head?_drop, List.getElem?_eq_getElem hlen]
     rw [List.head?_eq_some_head hne] at this
     injection this
    rw [he] at this
    simpa using this
   rcases Nat.eq_or_lt_of_le hj with e | hj
   · exact hn (by simpa [e] using hlt)
   · exact hn (ltK_trans (List.pairwise_iff_getElem.1 h _ _ hlen hjl hj) hlt)
theorem has_some {ks : List Ky} (h : up ks) {q p : Ky} (hp : ks[lo ks q]? = some p) : decide (q ∈ ks) = (cmpK p q == 0) := by
 rw [Bool.eq_iff_iff]
 simp only [decide_eq_true_eq, beq_iff_eq]
 rw [cmpK_zero]
 constructor
 · intro hm
   obtain ⟨j, hj, rfl⟩ := List.mem_iff_getElem.1 hm
   have hn := mt (lo_lt h ks[j] j ks[j] (List.getElem?_eq_getElem hj)).1 (ltK_irr _)
   obtain ⟨hl, e⟩ := List.getElem?_eq_some_iff.1 hp
   have hge := mt (lo_lt h ks[j] _ p hp).2 (Nat.lt_irrefl _)
   rcases Nat.eq_or_lt_of_le (Nat.le_of_not_lt hn) with e2 | h2
   · rw [← e]
     congr 1
   · exact (hge (by rw [← e]; exact List.pairwise_iff_getElem.1 h _ _ hl hj h2)).elim
 · rintro rfl
   exact List.mem_of_getElem? hp
theorem has_none {ks : List Ky} (h : up ks) {q : Ky} (hp : ks[lo ks q]? = none) : decide (q ∈ ks) = false := by
 rw [decide_eq_false_iff_not]
 intro hm
 obtain ⟨j, hj, rfl⟩ := List.mem_iff_getElem.1 hm
 have hn := mt (lo_lt h ks[j] j ks[j] (List.getElem?_eq_getElem hj)).1 (ltK_irr _)
 rw [List.getElem?_eq_none_iff] at hp
 omega

end Go.Proofs.YtfclnhmijjlhdaaGreatDoor.Ev

namespace Go.Proofs.YtfclnhmijjlhdaaGreatDoor.Ev
open Go.RowKit Go.Sort
set_option linter.unusedVariables false

set_option maxRecDepth 100000 in
set_option maxHeartbeats 2000000 in
theorem search_c (v : Value) (l : List Ev) (q : Ky) (w : World) (h : Evs w v l) (hu : up (keys l)) (hl : l.length ≤ 4096) :
 Calls Tryz.prog 218 #[v, kv q, .func (.func 219) #[] #[]] w fun e w' => e = .returned (.tuple #[.int .i64 (lo (keys l) q), .bool (decide (q ∈ (keys l)))]) ∧ Gr w w' := by
 obtain ⟨ao, N, cap, rfl, hN, hc, hm, ht⟩ := h
 have hfn := enters_of Tryz.func219 (by kernel_rfl) rfl
 obtain ⟨L, HL⟩ : ∃ L, Hid (lo (keys l) q = L) := ⟨_, rfl⟩
 have hLN : L ≤ N := by have := lo_le (keys l) q; rw [HL.out] at this; simpa [hN] using this
 have hN4 : N ≤ 4096 := by omega
 have hlt : Hid (∀ (j : Nat) (p : Ev), l[j]? = some p → (j < L ↔ ltK p.key q)) := fun j p hp => by rw [← HL.out]; exact lo_lt hu q j _ (keys_at hp)
 have HU := hid hu
 have HN := hid hN
 have HT := hid ht
 have HA := hid (At.new w #[.int .i64 q.f, .int .i64 q.e, .int .i64 q.k, .int .i64 q.o] 118)
 have HW := hid (gal (gr w) (.cells #[.int .i64 q.f, .int .i64 q.e, .int .i64 q.k, .int .i64 q.o] 118))
 rw [HL.out]
 clear hN ht hu hl
 go_enter Tryz.func218, Tryz.ntmps218
 go_wp2_with fail
 generalize World.alloc w _ = w4 at HA HW ⊢
 go_loopg [9, 10] N (fun gk a b wr => ∃ i j : Nat, gk = j - i ∧ i ≤ L ∧ L ≤ j ∧ j ≤ N ∧ a = .int .i64 i ∧ b = .int .i64 j ∧ Gr w4 wr)
 case atStart => exact ⟨0, N, by omega, by omega, hLN, by omega, rfl, rfl, gr _⟩
 case round =>
  obtain ⟨i, j, hg, hiL, hLj, hjN, rfl, rfl, hB⟩ := hrel
  have HB := hid hB
  have aq := hB.below
  clear hB
  by_cases hij : i < j
  · obtain ⟨m, hm⟩ : ∃ m, (i + j) / 2 = m := ⟨_, rfl⟩
    have m1 : i ≤ m := by omega
    have m2 : m < j := by omega
    have hmi : ((i : Int) + (j : Int)) / 2 = (m : Int) := by omega
    clear hm
    have m3 : (m : Int) < (N : Int) := by omega
    have m4 : (0 : Int) ≤ (m : Int) := by omega
    obtain ⟨p, hp⟩ := get_lt HN.out (show m < N by omega)
    obtain ⟨b, o, rfl, hb, c0, c1, c2, c3, c4, c5, c6, c7, c8⟩ := (HT.out.below (gt HW.out HB.out).below).ev hp
    obtain ⟨q0, q1, q2, q3⟩ := (HA.out.below aq).four
    have hq := (HA.out.below aq).lt
    have hK : Hid (∀ W, Gr wr W → W.cell? ⟨b, o + m * 9, none⟩ = some (.int .i64 p.key.f) ∧ W.cell? ⟨b, o + m * 9 + 1, none⟩ = some (.int .i64 p.key.e) ∧ W.cell? ⟨b, o + m * 9 + 2, none⟩ = some (.int .i64 p.key.k) ∧ W.cell? ⟨b, o + m * 9 + 3, none⟩ = some (.int .i64 p.key.o) ∧ W.cell? ⟨b, o + m * 9 + 4, none⟩ = some (.int .i64 p.a) ∧ W.cell? ⟨b, o + m * 9 + 5, none⟩ = some (.int .i64 p.g) ∧ W.cell? ⟨b, o + m * 9 + 6, none⟩ = some (.int .i64 p.p) ∧ W.cell? ⟨b, o + m * 9 + 7, none⟩ = some (.int .i64 p.r) ∧ W.cell? ⟨b, o + m * 9 + 8, none⟩ = some (.int .i64 p.l) ∧ W.cell? ⟨w.heap.size, 0, none⟩ = some (.int .i64 q.f) ∧ W.cell? ⟨w.heap.size, 1, none⟩ = some (.int .i64 q.e) ∧ W.cell? ⟨w.heap.size, 2, none⟩ = some (.int .i64 q.k) ∧ W.cell? ⟨w.heap.size, 3, none⟩ = some (.int .i64 q.o)) := hid (fun W g => ⟨(g.below.cell (p := ⟨b, _, none⟩) hb).trans c0, (g.below.cell (p := ⟨b, _, none⟩) hb).trans c1, (g.below.cell (p := ⟨b, _, none⟩) hb).trans c2, (g.below.cell (p := ⟨b, _, none⟩) hb).trans c3, (g.below.cell (p := ⟨b, _, none⟩) hb).trans c4, (g.below.cell (p := ⟨b, _, none⟩) hb).trans c5, (g.below.cell (p := ⟨b, _, none⟩) hb).trans c6, (g.below.cell (p := ⟨b, _, none⟩) hb).trans c7, (g.below.cell (p := ⟨b, _, none⟩) hb).trans c8, (g.below.cell (p := ⟨w.heap.size, _, none⟩) hq).trans q0, (g.below.cell (p := ⟨w.heap.size, _, none⟩) hq).trans q1, (g.below.cell (p := ⟨w.heap.size, _, none⟩) hq).trans q2, (g.below.cell (p := ⟨w.heap.size, _, none⟩) hq).trans q3⟩)
    have hd := hlt.out m p hp
    clear hp c0 c1 c2 c3 c4 c5 c6 c7 c8 q0 q1 q2 q3 hb hq aq
    by_cases hc : ltK p.key q
    · have hmL := hd.2 hc
      have d1 : decide (cmpK p.key q < 0) = true := by rw [decide_eq_true_iff]; exact (cmpK_lt _ _).2 hc
      clear hd hc
      go_wp2_with fail
      refine wp_region_noPanic ?_
      refine wp_region_held_drew (S := (fun W => Gr wr W)) (by kernel_rfl) (by first | exact gd1 (gr _) | exact gr _) (fun hHeld => ?_)
      refine tkA 0 24 ?_
      simp only [pa, pu2, pu3]
      refine tkA 1 25 ?_
      simp only [pa, pu2, pu3]
      refine tkA 2 26 ?_
      simp only [pa, pu2, pu3]
      refine tkA 3 27 ?_
      simp only [pa, pu2, pu3]
      refine tkL 4 28 hK.out ?_
      simp only [pa, pu2, pu3]
      refine tkL 5 29 hK.out ?_
      simp only [pa, pu2, pu3]
      refine onA 6 (fun K hKK => ?_)
      go_simp
      ((refine (place1_c p q _).mono ?_); rintro e y3 ⟨rfl, hy3⟩; have hgy3 := gt (show Gr wr _ by first | with_reducible assumption | exact gd1 (gr _)) hy3; clear hy3)
      dsimp only
      refine hKK.out _ _ hgy3 (fun hHeld => ?_)
      clear hKK K
      (try simp only [Act.put, pu1, pu2, pu3])
      refine tkA 7 31 ?_
      simp only [pa, pu2, pu3]
      refine wpAnyH_done (by kernel_rfl) ?_ _
      refine NoPanic.normal ?_
      go_wp2_with fail
      go_roundg (j - (m + 1))
      case measure => omega
      case rel => exact ⟨m + 1, j, rfl, by omega, hLj, hjN, by go_num, rfl, gt HB.out hgy3⟩
    · have hmL : L ≤ m := by
       rcases Nat.lt_or_ge m L with h | h
       · exact absurd (hd.1 h) hc
       · exact h
      have d1 : decide (cmpK p.key q < 0) = false := by rw [decide_eq_false_iff_not]; exact fun h => hc ((cmpK_lt _ _).1 h)
      clear hd hc
      go_wp2_with fail
      refine wp_region_noPanic ?_
      refine wp_region_held_drew (S := (fun W => Gr wr W)) (by kernel_rfl) (by first | exact gd1 (gr _) | exact gr _) (fun hHeld => ?_)
      refine tkA 0 24 ?_
      simp only [pa, pu2, pu3]
      refine tkA 1 25 ?_
      simp only [pa, pu2, pu3]
      refine tkA 2 26 ?_
      simp only [pa, pu2, pu3]
      refine tkA 3 27 ?_
      simp only [pa, pu2, pu3]
      refine tkL 4 28 hK.out ?_
      simp only [pa, pu2, pu3]
      refine tkL 5 29 hK.out ?_
      simp only [pa, pu2, pu3]
      refine onA 6 (fun K hKK => ?_)
      go_simp
      ((refine (place1_c p q _).mono ?_); rintro e y3 ⟨rfl, hy3⟩; have hgy3 := gt (show Gr wr _ by first | with_reducible assumption | exact gd1 (gr _)) hy3; clear hy3)
      dsimp only
      refine hKK.out _ _ hgy3 (fun hHeld => ?_)
      clear hKK K
      (try simp only [Act.put, pu1, pu2, pu3])
      refine tkA 7 31 ?_
      simp only [pa, pu2, pu3]
      refine wpAnyH_done (by kernel_rfl) ?_ _
      refine NoPanic.normal ?_
      go_wp2_with fail
      go_roundg (m - i)
      case measure => omega
      case rel => exact ⟨i, m, rfl, hiL, hmL, by omega, rfl, rfl, gt HB.out hgy3⟩
  · have hij' : i = L := by omega
    have hjj' : j = L := by omega
    subst hij'
    subst hjj'
    by_cases hin : j < N
    · obtain ⟨p, hp⟩ := get_lt HN.out hin
      obtain ⟨b, o, rfl, hb, c0, c1, c2, c3, c4, c5, c6, c7, c8⟩ := (HT.out.below (gt HW.out HB.out).below).ev hp
      obtain ⟨q0, q1, q2, q3⟩ := (HA.out.below aq).four
      have hq := (HA.out.below aq).lt
      have hK : Hid (∀ W, Gr wr W → W.cell? ⟨b, o + j * 9, none⟩ = some (.int .i64 p.key.f) ∧ W.cell? ⟨b, o + j * 9 + 1, none⟩ = some (.int .i64 p.key.e) ∧ W.cell? ⟨b, o + j * 9 + 2, none⟩ = some (.int .i64 p.key.k) ∧ W.cell? ⟨b, o + j * 9 + 3, none⟩ = some (.int .i64 p.key.o) ∧ W.cell? ⟨b, o + j * 9 + 4, none⟩ = some (.int .i64 p.a) ∧ W.cell? ⟨b, o + j * 9 + 5, none⟩ = some (.int .i64 p.g) ∧ W.cell? ⟨b, o + j * 9 + 6, none⟩ = some (.int .i64 p.p) ∧ W.cell? ⟨b, o + j * 9 + 7, none⟩ = some (.int .i64 p.r) ∧ W.cell? ⟨b, o + j * 9 + 8, none⟩ = some (.int .i64 p.l) ∧ W.cell? ⟨w.heap.size, 0, none⟩ = some (.int .i64 q.f) ∧ W.cell? ⟨w.heap.size, 1, none⟩ = some (.int .i64 q.e) ∧ W.cell? ⟨w.heap.size, 2, none⟩ = some (.int .i64 q.k) ∧ W.cell? ⟨w.heap.size, 3, none⟩ = some (.int .i64 q.o)) := hid (fun W g => ⟨(g.below.cell (p := ⟨b, _, none⟩) hb).trans c0, (g.below.cell (p := ⟨b, _, none⟩) hb).trans c1, (g.below.cell (p := ⟨b, _, none⟩) hb).trans c2, (g.below.cell (p := ⟨b, _, none⟩) hb).trans c3, (g.below.cell (p := ⟨b, _, none⟩) hb).trans c4, (g.below.cell (p := ⟨b, _, none⟩) hb).trans c5, (g.below.cell (p := ⟨b, _, none⟩) hb).trans c6, (g.below.cell (p := ⟨b, _, none⟩) hb).trans c7, (g.below.cell (p := ⟨b, _, none⟩) hb).trans c8, (g.below.cell (p := ⟨w.heap.size, _, none⟩) hq).trans q0, (g.below.cell (p := ⟨w.heap.size, _, none⟩) hq).trans q1, (g.below.cell (p := ⟨w.heap.size, _, none⟩) hq).trans q2, (g.below.cell (p := ⟨w.heap.size, _, none⟩) hq).trans q3⟩)
      have hF : Hid (decide (q ∈ (keys l)) = (cmpK p.key q == 0)) := hid (has_some HU.out (by rw [HL.out]; exact (keys_at hp)))
      have d1 : decide (j < N) = true := by rw [decide_eq_true_iff]; exact hin
      have m3 : (j : Int) < (N : Int) := by omega
      have m4 : (0 : Int) ≤ (j : Int) := by omega
      clear hp hlt c0 c1 c2 c3 c4 c5 c6 c7 c8 q0 q1 q2 q3 hb hq aq
      go_wp2_with fail
      refine wp_region_noPanic ?_
      refine wp_region_held_drew (S := (fun W => Gr wr W)) (by kernel_rfl) (by first | exact gd1 (gr _) | exact gr _) (fun hHeld => ?_)
      refine tkA 0 35 ?_
      simp only [pa, pu2, pu3]
      refine tkA 1 36 ?_
      simp only [pa, pu2, pu3]
      refine tkA 2 37 ?_
      simp only [pa, pu2, pu3]
      refine tkA 3 38 ?_
      simp only [pa, pu2, pu3]
      refine tkA 4 39 ?_
      simp only [pa, pu2, pu3]
      refine tkA 5 40 ?_
      simp only [pa, pu2, pu3]
      refine tkA 6 41 ?_
      simp only [pa, pu2, pu3]
      refine tkA 7 42 ?_
      simp only [pa, pu2, pu3]
      refine tkA 8 43 ?_
      simp only [pa, pu2, pu3]
      refine tkL 9 44 hK.out ?_
      simp only [pa, pu2, pu3]
      refine tkL 10 45 hK.out ?_
      simp only [pa, pu2, pu3]
      refine onA 11 (fun K hKK => ?_)
      go_simp
      ((refine (place1_c p q _).mono ?_); rintro e y3 ⟨rfl, hy3⟩; have hgy3 := gt (show Gr wr _ by first | with_reducible assumption | exact gd1 (gr _)) hy3; clear hy3)
      dsimp only
      refine hKK.out _ _ hgy3 (fun hHeld => ?_)
      clear hKK K
      (try simp only [Act.put, pu1, pu2, pu3])
      refine tkA 12 47 ?_
      simp only [pa, pu2, pu3]
      refine tkA 13 48 ?_
      simp only [pa, pu2, pu3]
      refine tkA 14 6 ?_
      simp only [pa, pu2, pu3]
      refine tkA 15 7 ?_
      simp only [pa, pu2, pu3]
      refine wpAnyH_done (by kernel_rfl) ?_ _
      refine NoPanic.normal ?_
      go_wp2_with fail
      go_ret2
      exact ⟨by rw [hF.out]; rfl, gt (gt HW.out HB.out) hgy3⟩
    · have hF : Hid (decide (q ∈ (keys l)) = false) := hid (has_none HU.out (by rw [HL.out]; exact List.getElem?_eq_none (by have := HN.out; simp; omega)))
      have d1 : decide (j < N) = false := by rw [decide_eq_false_iff_not]; exact hin
      clear hlt aq
      have hK : Hid (∀ W, Gr wr W → True) := hid (fun _ _ => trivial)
      go_wp2_with fail
      refine wp_region_noPanic ?_
      refine wp_region_held_drew (S := (fun W => Gr wr W)) (by kernel_rfl) (by first | exact gd1 (gr _) | exact gr _) (fun hHeld => ?_)
      refine tkA 0 35 ?_
      simp only [pa, pu2, pu3]
      refine tkA 1 36 ?_
      simp only [pa, pu2, pu3]
      refine tkA 2 37 ?_
      simp only [pa, pu2, pu3]
      refine tkA 3 38 ?_
      simp only [pa, pu2, pu3]
      refine tkA 4 39 ?_
      simp only [pa, pu2, pu3]
      refine tkS 5 40 ?_
      simp only [pa, pu2, pu3]
      refine tkS 6 41 ?_
      simp only [pa, pu2, pu3]
      refine tkS 7 42 ?_
      simp only [pa, pu2, pu3]
      refine tkS 8 43 ?_
      simp only [pa, pu2, pu3]
      refine tkS 9 44 ?_
      simp only [pa, pu2, pu3]
      refine tkS 10 45 ?_
      simp only [pa, pu2, pu3]
      refine tkS 11 46 ?_
      simp only [pa, pu2, pu3]
      refine tkS 12 47 ?_
      simp only [pa, pu2, pu3]
      refine tkA 13 48 ?_
      simp only [pa, pu2, pu3]
      refine tkA 14 6 ?_
      simp only [pa, pu2, pu3]
      refine tkA 15 7 ?_
      simp only [pa, pu2, pu3]
      refine wpAnyH_done (by kernel_rfl) ?_ _
      refine NoPanic.normal ?_
      go_wp2_with fail
      go_ret2
      exact ⟨by rw [hF.out]; rfl, gt (gt HW.out HB.out) (gd1 (gr _))⟩

end Go.Proofs.YtfclnhmijjlhdaaGreatDoor.Ev
