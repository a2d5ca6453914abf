/- Where a key stands among events in order, the event of a key, whether a list is in order (layer 11, event). -/
import Derived.Test.YtfkbkfaiplhehaaEvS2
import Derived.Test.YtfkbkfaiplhehaaEvKo
import Derived.Test.YtfkbkfaiplhehaaEvD
namespace Go.Proofs.Ytfkbkfaiplhehaa.Ev
open Go.RowKit Go.Sort
set_option linter.unusedVariables false

theorem Gr.set {w W : World} (h : Gr w W) {b : Nat} (hb : w.heap.size ≤ b) (j : Nat) (v : Value) : Gr w (W.setCell ⟨b, j, none⟩ v) := by
  obtain ⟨q, os, rfl⟩ := h
  refine ⟨q, ?_, ?_⟩
  rotate_left
  · unfold World.setCell grow
    simp only
    rw [modify_append_right _ _ _ _ (by exact hb)]

def zeroE : Ev := ⟨⟨0, 0, 0, 0⟩, 0, 0, 0, 0, 0⟩

theorem lo_get {l : List Ev} (hu : up (keys l)) {q : Ky} (hq : q ∈ keys l) : ∃ x, l[lo (keys l) q]? = some x ∧ getK l q = some x := by
  cases hp : (keys l)[lo (keys l) q]? with
  | none =>
    have := has_none hu hp
    rw [decide_eq_false_iff_not] at this
    exact (this hq).elim
  | some p =>
    have h := has_some hu hp
    rw [decide_eq_true hq] at h
    have hpq : p = q := by
      have := h.symm
      rw [beq_iff_eq, cmpK_zero] at this
      exact this
    subst hpq
    simp at hp
    obtain ⟨x, hx, rfl⟩ := hp
    exact ⟨x, hx, getK_mem (up_nodup hu) (List.mem_of_getElem? hx)⟩

set_option maxRecDepth 100000 in
theorem place_c (v : Value) (l : List Ev) (q : Ky) (w : World) (h : Evs w v l) (hu : up (keys l)) (hl : l.length ≤ 4096) :
    Calls Try.prog 49 #[v, kv q] w fun e w' => e = .returned (.tuple #[.int .i64 (lo (keys l) q), .bool (decide (q ∈ keys l))]) ∧ Gr w w' := by
  have hS := fun (W : World) (g : Gr w W) => search_c v l q W (h.below g.below) hu hl
  have HS := hid (hS _ (gal (gr w) (.cells #[.int .i64 q.f, .int .i64 q.e, .int .i64 q.k, .int .i64 q.o] 24)))
  clear hS h hu hl
  generalize decide (q ∈ keys l) = B at HS ⊢
  generalize lo (keys l) q = n at HS ⊢
  go_enter Try.func49, Try.ntmps49
  go_wp2_with (go_at_call 63; ((with_reducible refine HS.out.mono ?_); rintro e w1 ⟨rfl, hB⟩))
  go_ret2
  exact ⟨rfl, gt (gal (gr w) _) hB⟩

theorem results_find {fn : Func} (h : fn.results = #[.cell 4 31, .tmp 5]) (tmps : Array Value) (W : World) (b : Nat) (hp : tmps[4]?.getD undef = .pointer (some ⟨b, 0, none⟩)) (x : Ev) (hA : At W b (ecs x).toArray 31) :
    (results fn tmps).run Try.prog W = .ok (.tuple #[ev x, tmps.getD 5 undef]) W := by
  obtain ⟨c0, c1, c2, c3, c4, c5, c6, c7, c8⟩ := hA.nine
  simp [results, h, hp, go_sem, c0, c1, c2, c3, c4, c5, c6, c7, c8]
theorem At.put9 {w : World} {b : Nat} {x0 x1 x2 x3 x4 x5 x6 x7 x8 : Value} {T : TypeId} (h : At w b #[x0, x1, x2, x3, x4, x5, x6, x7, x8] T) (v0 v1 v2 v3 v4 v5 v6 v7 v8 : Value) :
    At (((((((((w.setCell ⟨b, 0, none⟩ v0).setCell ⟨b, 1, none⟩ v1).setCell ⟨b, 2, none⟩ v2).setCell ⟨b, 3, none⟩ v3).setCell ⟨b, 4, none⟩ v4).setCell ⟨b, 5, none⟩ v5).setCell ⟨b, 6, none⟩ v6).setCell ⟨b, 7, none⟩ v7).setCell ⟨b, 8, none⟩ v8) b #[v0, v1, v2, v3, v4, v5, v6, v7, v8] T := by
  have h0 : At (w.setCell ⟨b, 0, none⟩ v0) b #[v0, x1, x2, x3, x4, x5, x6, x7, x8] T := heap_setCell_same _ b 0 _ _ v0 h
  have h1 : At ((w.setCell ⟨b, 0, none⟩ v0).setCell ⟨b, 1, none⟩ v1) b #[v0, v1, x2, x3, x4, x5, x6, x7, x8] T := heap_setCell_same _ b 1 _ _ v1 h0
  have h2 : At (((w.setCell ⟨b, 0, none⟩ v0).setCell ⟨b, 1, none⟩ v1).setCell ⟨b, 2, none⟩ v2) b #[v0, v1, v2, x3, x4, x5, x6, x7, x8] T := heap_setCell_same _ b 2 _ _ v2 h1
  have h3 : At ((((w.setCell ⟨b, 0, none⟩ v0).setCell ⟨b, 1, none⟩ v1).setCell ⟨b, 2, none⟩ v2).setCell ⟨b, 3, none⟩ v3) b #[v0, v1, v2, v3, x4, x5, x6, x7, x8] T := heap_setCell_same _ b 3 _ _ v3 h2
  have h4 : At (((((w.setCell ⟨b, 0, none⟩ v0).setCell ⟨b, 1, none⟩ v1).setCell ⟨b, 2, none⟩ v2).setCell ⟨b, 3, none⟩ v3).setCell ⟨b, 4, none⟩ v4) b #[v0, v1, v2, v3, v4, x5, x6, x7, x8] T := heap_setCell_same _ b 4 _ _ v4 h3
  have h5 : At ((((((w.setCell ⟨b, 0, none⟩ v0).setCell ⟨b, 1, none⟩ v1).setCell ⟨b, 2, none⟩ v2).setCell ⟨b, 3, none⟩ v3).setCell ⟨b, 4, none⟩ v4).setCell ⟨b, 5, none⟩ v5) b #[v0, v1, v2, v3, v4, v5, x6, x7, x8] T := heap_setCell_same _ b 5 _ _ v5 h4
  have h6 : At (((((((w.setCell ⟨b, 0, none⟩ v0).setCell ⟨b, 1, none⟩ v1).setCell ⟨b, 2, none⟩ v2).setCell ⟨b, 3, none⟩ v3).setCell ⟨b, 4, none⟩ v4).setCell ⟨b, 5, none⟩ v5).setCell ⟨b, 6, none⟩ v6) b #[v0, v1, v2, v3, v4, v5, v6, x7, x8] T := heap_setCell_same _ b 6 _ _ v6 h5
  have h7 : At ((((((((w.setCell ⟨b, 0, none⟩ v0).setCell ⟨b, 1, none⟩ v1).setCell ⟨b, 2, none⟩ v2).setCell ⟨b, 3, none⟩ v3).setCell ⟨b, 4, none⟩ v4).setCell ⟨b, 5, none⟩ v5).setCell ⟨b, 6, none⟩ v6).setCell ⟨b, 7, none⟩ v7) b #[v0, v1, v2, v3, v4, v5, v6, v7, x8] T := heap_setCell_same _ b 7 _ _ v7 h6
  have h8 : At (((((((((w.setCell ⟨b, 0, none⟩ v0).setCell ⟨b, 1, none⟩ v1).setCell ⟨b, 2, none⟩ v2).setCell ⟨b, 3, none⟩ v3).setCell ⟨b, 4, none⟩ v4).setCell ⟨b, 5, none⟩ v5).setCell ⟨b, 6, none⟩ v6).setCell ⟨b, 7, none⟩ v7).setCell ⟨b, 8, none⟩ v8) b #[v0, v1, v2, v3, v4, v5, v6, v7, v8] T := heap_setCell_same _ b 8 _ _ v8 h7
  exact h8
theorem Gr.set9 {w W : World} (h : Gr w W) {b : Nat} (hb : w.heap.size ≤ b) (v0 v1 v2 v3 v4 v5 v6 v7 v8 : Value) :
    Gr w (((((((((W.setCell ⟨b, 0, none⟩ v0).setCell ⟨b, 1, none⟩ v1).setCell ⟨b, 2, none⟩ v2).setCell ⟨b, 3, none⟩ v3).setCell ⟨b, 4, none⟩ v4).setCell ⟨b, 5, none⟩ v5).setCell ⟨b, 6, none⟩ v6).setCell ⟨b, 7, none⟩ v7).setCell ⟨b, 8, none⟩ v8) :=
  ((((((((h.set hb _ _).set hb _ _).set hb _ _).set hb _ _).set hb _ _).set hb _ _).set hb _ _).set hb _ _).set hb _ _

set_option maxRecDepth 100000 in
set_option maxHeartbeats 1000000 in
theorem find_c (v : Value) (l : List Ev) (q : Ky) (w : World) (h : Evs w v l) (hu : up (keys l)) (hl : l.length ≤ 4096) :
    Calls Try.prog 42 #[v, kv q] w fun e w' => e = .returned (.tuple #[ev ((getK l q).getD zeroE), .bool (getK l q).isSome]) ∧ Gr w w' := by
  have hg0 := gal (gal (gr w) (.cells #[.int .i64 q.f, .int .i64 q.e, .int .i64 q.k, .int .i64 q.o] 24)) (.cells (ecs zeroE).toArray 31)
  have HP := hid (place_c v l q _ (h.below hg0.below) hu hl)
  have HG := hid hg0
  have HA := hid (At.newAt (w.alloc (.cells #[.int .i64 q.f, .int .i64 q.e, .int .i64 q.k, .int .i64 q.o] 24)) (ecs zeroE).toArray 31 (n := w.heap.size + 1) (by simp))
  have HQ := hid ((At.new w #[.int .i64 q.f, .int .i64 q.e, .int .i64 q.k, .int .i64 q.o] 24).more (.cells (ecs zeroE).toArray 31))
  clear hg0
  by_cases hq : q ∈ keys l
  · obtain ⟨x, hx, hgx⟩ := lo_get hu hq
    rw [hgx]
    rw [decide_eq_true hq] at HP
    obtain ⟨ao, L, cap, rfl, hL, hc, hm, ht⟩ := h
    have hlt : lo (keys l) q < L := by rw [← hL]; exact (List.getElem?_eq_some_iff.1 hx).1
    have HT := hid ht
    have HX := hid hx
    generalize lo (keys l) q = n at HP HX hlt
    have hk1 : (n : Int) < (L : Int) := by omega
    have hk0 : (0 : Int) ≤ (n : Int) := by omega
    clear hx hgx hq hu hl hL ht
    simp only [zeroE] at HP HG HA HQ
    go_enter Try.func42, Try.ntmps42
    go_wp2_with (go_at_call 49; ((with_reducible refine HP.out.mono ?_); rintro e w1 ⟨rfl, g1⟩; have G1 := hid (gt HG.out g1); obtain ⟨b, o, rfl, hb, c0, c1, c2, c3, c4, c5, c6, c7, c8⟩ := (HT.out.below G1.out.below).ev HX.out; have HA1 := hid (HA.out.below g1.below); clear g1; obtain ⟨a0, a1, a2, a3, a4, a5, a6, a7, a8⟩ := HA1.out.nine; have f0 := HA1.out.frozen 0; have f1 := HA1.out.frozen 1; have f2 := HA1.out.frozen 2; have f3 := HA1.out.frozen 3; have f4 := HA1.out.frozen 4; have f5 := HA1.out.frozen 5; have f6 := HA1.out.frozen 6; have f7 := HA1.out.frozen 7; have f8 := HA1.out.frozen 8))
    refine bodyPost_ret (results_find rfl _ _ (w.heap.size + 1) rfl x (At.put9 HA1.out _ _ _ _ _ _ _ _ _)) rfl ?_
    exact ⟨rfl, G1.out.set9 (by omega) _ _ _ _ _ _ _ _ _⟩
  · have hgx : getK l q = none := getK_none.2 hq
    rw [hgx]
    rw [decide_eq_false hq] at HP
    generalize lo (keys l) q = n at HP
    clear hq hu hl hgx h
    simp only [zeroE] at HP HG HA HQ
    go_enter Try.func42, Try.ntmps42
    go_wp2_with (go_at_call 49; ((with_reducible refine HP.out.mono ?_); rintro e w1 ⟨rfl, g1⟩; have G1 := hid (gt HG.out g1); have HA1 := hid (HA.out.below g1.below); clear g1; obtain ⟨a0, a1, a2, a3, a4, a5, a6, a7, a8⟩ := HA1.out.nine; have f0 := HA1.out.frozen 0; have f1 := HA1.out.frozen 1; have f2 := HA1.out.frozen 2; have f3 := HA1.out.frozen 3; have f4 := HA1.out.frozen 4; have f5 := HA1.out.frozen 5; have f6 := HA1.out.frozen 6; have f7 := HA1.out.frozen 7; have f8 := HA1.out.frozen 8))
    refine bodyPost_ret (results_find rfl _ _ (w.heap.size + 1) rfl zeroE (At.put9 HA1.out _ _ _ _ _ _ _ _ _)) rfl ?_
    exact ⟨rfl, G1.out.set9 (by omega) _ _ _ _ _ _ _ _ _⟩

theorem all_keys {l : List Ev} (h : l.all evB = true) : (keys l).all keyB = true := by
  rw [List.all_eq_true] at h ⊢
  intro k hk
  obtain ⟨x, hx, rfl⟩ := List.mem_map.1 hk
  have := h x hx
  unfold evB at this
  simp at this
  exact this.1.1.1.1.1

set_option maxRecDepth 100000 in
theorem ordered_c (v : Value) (l : List Ev) (w : World) (h : Evs w v l) :
    Calls Try.prog 16 #[v] w fun e w' => e = .returned (.bool (ordB l)) ∧ Below w.heap.size w w' := by
  have HR := hid (fun W (g : Below w.heap.size w W) => allright_c v l W (h.below g))
  have HKo := hid (fun W (g : Below w.heap.size w W) => keysof_c v l W (h.below g))
  obtain ⟨ao, L, cap, rfl, hL, hc, hm, ht⟩ := h
  by_cases hlen : L ≤ 64
  case neg =>
    rw [show ordB l = false by unfold ordB; rw [hL]; simp [hlen]]
    have d1 : decide ((L : Int) ≤ 64) = false := by simp; omega
    clear hL ht
    go_enter Try.func16, Try.ntmps16
    go_wp2_with fail
    go_ret
    exact ⟨rfl, br w⟩
  have d1 : decide ((L : Int) ≤ 64) = true := by simp; omega
  have d1' : (L : Int) ≤ 64 := by omega
  cases hA : l.all evB
  case false =>
    rw [show ordB l = false by unfold ordB; rw [hA]; simp]
    rw [hA] at HR
    clear hL ht hA
    go_enter Try.func16, Try.ntmps16
    go_wp2_with (go_at_call 30; ((with_reducible refine (HR.out _ (br w)).mono ?_); rintro e w1 ⟨rfl, g1⟩))
    go_ret
    exact ⟨rfl, g1.below⟩
  have hR : risB (keys l) = ordB l := by
    unfold risB ordB
    rw [hA, all_keys hA, hL]
    simp [hlen]
  rw [hA] at HR
  rw [← hR]
  clear hL ht hA hR
  go_enter Try.func16, Try.ntmps16
  go_wp2_with (first
    | (go_at_call 30; ((with_reducible refine (HR.out _ (br w)).mono ?_); rintro e w1 ⟨rfl, g1⟩))
    | (go_at_call 35; ((with_reducible refine (HKo.out _ g1.below).mono ?_); rintro e w2 ⟨fv, rfl, hsv, g2⟩))
    | (go_at_call 34; ((with_reducible refine (kordered_c fv (keys l) _ _ hsv g2.below.size).mono ?_); rintro e w3 ⟨rfl, g3⟩)))
  go_ret
  exact ⟨rfl, bt (gt g1 g2).below g3⟩

end Go.Proofs.Ytfkbkfaiplhehaa.Ev
