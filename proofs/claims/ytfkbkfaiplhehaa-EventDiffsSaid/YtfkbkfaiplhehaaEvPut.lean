/- An event put among some in order, as the document says it; one more event at the end of a list of the call's own (layer 11, event). -/
import Derived.Test.YtfkbkfaiplhehaaEvSo
import Derived.Test.YtfkbkfaiplhehaaEvF
import Derived.Laws.AppendOwnNone
namespace Go.Proofs.Ytfkbkfaiplhehaa.Ev
open Go.RowKit
open Go.Sort hiding Below
set_option linter.unusedVariables false

theorem cell_nine_new (w : World) (y : Ev) (t : TypeId) : ∀ j u, (ecs y)[j]? = some u → (w.alloc (.cells #[.int .i64 y.key.f, .int .i64 y.key.e, .int .i64 y.key.k, .int .i64 y.key.o, .int .i64 y.a, .int .i64 y.g, .int .i64 y.p, .int .i64 y.r, .int .i64 y.l] t)).cell? ((⟨w.heap.size, 0, none⟩ : Addr).add j) = some u := by
  intro j u hj
  rw [Addr.add_lit, Nat.zero_add, cell_of_row _ _ _ _ _ _ (At.new w _ t)]
  simpa using hj
/-- one more event at the end of a list of the call's own. -/
theorem app_ev {ops : Array Oper} {rest : List Oper} {o : Oper} {a : Act} {Q : Exit → Act → World → Prop} (w : World) (hgd : o.guard = none) (s x : Operand)
    (ho : o.op = .call { callee := .builtin .append, args := #[s, x], argTypes := #[22, 22] })
    (B : Nat) (v : Value) (l : List Ev) (hs : a.eval s = v) (hown : w.ownsRow B 31 9 v l.length (flat ecs l)) (W0 : World) (hB : Below B W0 w) (hB0 : B ≤ W0.heap.size) (y : Ev) (hx : a.eval x = .slice (some ⟨w.heap.size, 0, none⟩) 1 1) (hlen : l.length ≤ 4096)
    (h : ∀ v' w', w'.ownsRow B 31 9 v' (l ++ [y]).length (flat ecs (l ++ [y])) → Below B W0 w' → w.grownBy w' v.ownBlock → (v'.ownBlock = v.ownBlock ∨ ∃ b, v'.ownBlock = some b ∧ w.heap.size ≤ b) → wpList Try.prog ops Q rest (a.put o.dst v') w') :
    wpList Try.prog ops Q (o :: rest) a (w.alloc (.cells #[.int .i64 y.key.f, .int .i64 y.key.e, .int .i64 y.key.k, .int .i64 y.key.o, .int .i64 y.a, .int .i64 y.g, .int .i64 y.p, .int .i64 y.r, .int .i64 y.l] 31)) := by
  obtain ⟨i0, hi, hz0, hz1, hz2⟩ := info_parts info_event
  have hsz := hB.size
  refine wpList_append_own_at _ hgd s x 22 ho B 31 i0 (ev zeroE) 9 72 Try.underlying22 hi hz0 hz1 hz2 rfl (by decide) v l.length (flat ecs l) hs (hown.alloc _) ⟨w.heap.size, 0, none⟩ 1 1 (ecs y) hx rfl (cell_nine_new w y _) (ecs_one y) (by unfold maxLen; omega) (by omega) (by simp; omega) ?_
  intro v' w' h1 h2 _ h3
  have hg : w.grownBy w' v.ownBlock := (World.grownBy_alloc w _ v.ownBlock).trans h2
  refine h v' w' ?_ ?_ hg ?_
  · rw [flat_snoc, List.length_append, List.length_singleton]
    exact h1
  · exact hB.grown hg (by omega) (fun k e => (hown.lt k e).1)
  · rcases h3 with h3 | h3
    · exact .inl h3
    · exact .inr ⟨_, h3, by simp⟩

theorem own_gr {w w' : World} {B n k : Nat} {t : TypeId} {v : Value} {xs : List Value} (h : w.ownsRow B t k v n xs) (g : Gr w w') : w'.ownsRow B t k v n xs := h.kept g.grownBy (by cases v.ownBlock <;> simp)
theorem below_gr {W0 w w' : World} {B : Nat} (h : Below B W0 w) (hB : B ≤ W0.heap.size) (g : Gr w w') : Below B W0 w' := h.trans (g.below.mono (Nat.le_trans hB h.size))
theorem owns_base {w : World} {B B' n k : Nat} {t : TypeId} {v : Value} {xs : List Value} (h : w.ownsRow B t k v n xs) (hB : B' ≤ B) : w.ownsRow B' t k v n xs := by
  refine ⟨h.1, ?_⟩
  rcases h.2 with h | ⟨g, cap, cur, e, h1, h2⟩
  · exact .inl h
  · exact .inr ⟨g, cap, cur, e, Nat.le_trans hB h1, h2⟩

theorem put_some {e : Ev} : ∀ {a : List Ev} (b : List Ev), (a.any fun x => decide (cmpK e.key x.key ≤ 0)) = true → putL e (a ++ b) = putL e a ++ b
  | [], _, h => by simp at h
  | y :: a, b, h => by
    rw [List.cons_append]
    unfold putL
    split
    · simp
    · rename_i hc
      have : (a.any fun x => decide (cmpK e.key x.key ≤ 0)) = true := by simpa [hc] using h
      rw [put_some b this]
      simp
theorem put_none {e : Ev} : ∀ {a : List Ev} (b : List Ev), (a.any fun x => decide (cmpK e.key x.key ≤ 0)) = false → putL e (a ++ b) = a ++ putL e b
  | [], _, _ => rfl
  | y :: a, b, h => by
    have hc : ¬ cmpK e.key y.key ≤ 0 := by
      intro hc
      simp [hc] at h
    have h2 : (a.any fun x => decide (cmpK e.key x.key ≤ 0)) = false := by simpa [hc] using h
    rw [List.cons_append]
    conv => lhs; unfold putL
    rw [if_neg hc, put_none b h2]
    rfl
/-- what Put has made behind k events. -/
def half (e : Ev) (a : List Ev) : List Ev := if (a.any fun x => decide (cmpK e.key x.key ≤ 0)) = true then putL e a else a
theorem half_len (e : Ev) (a : List Ev) : (half e a).length ≤ a.length + 1 := by
  unfold half
  split
  · rw [put_len]; exact Nat.le_refl _
  · omega

set_option maxRecDepth 100000 in
set_option maxHeartbeats 4000000 in
theorem rput_c (v : Value) (l : List Ev) (e : Ev) (w : World) (h : Evs w v l) (hl : l.length ≤ 1000) :
    Calls Try.prog 36 #[v, ev e] w fun e' w' => ∃ v', e' = .returned v' ∧ w'.ownsRow w.heap.size 31 9 v' (putL e l).length (flat ecs (putL e l)) ∧ Below w.heap.size w w' := by
  obtain ⟨ao, L, cap, rfl, hL, hc, hm, ht⟩ := h
  have HL := hid hL
  have hL1 : L ≤ 1000 := by omega
  have HT := hid ht
  clear hL ht hl
  obtain ⟨w1, hw1⟩ : ∃ w1, w1 = w.alloc (.cells #[.int .i64 e.key.f, .int .i64 e.key.e, .int .i64 e.key.k, .int .i64 e.key.o, .int .i64 e.a, .int .i64 e.g, .int .i64 e.p, .int .i64 e.r, .int .i64 e.l] 31) := ⟨_, rfl⟩
  have HA : Hid (At w1 w.heap.size #[.int .i64 e.key.f, .int .i64 e.key.e, .int .i64 e.key.k, .int .i64 e.key.o, .int .i64 e.a, .int .i64 e.g, .int .i64 e.p, .int .i64 e.r, .int .i64 e.l] 31) := hid (by rw [hw1]; exact At.new w _ _)
  have HB1 : Hid (Below w.heap.size w w1) := hid (by rw [hw1]; exact bal (br w) _)
  obtain ⟨B, hB⟩ : ∃ B, B = w1.heap.size := ⟨_, rfl⟩
  have hB0 : B ≤ w1.heap.size := by omega
  have hBw : w.heap.size + 1 = B := by rw [hB, hw1]; simp
  have hO0 : (w1.alloc (.cells #[] 31)).ownsRow B 31 9 (.slice (some ⟨B, 0, none⟩) 0 0) 0 [] := by
    have := World.ownsRow_made (e := 31) (size := 9) w1 #[] 0 hB0 (Nat.zero_le _) (by simp)
    rw [← hB] at this
    exact this
  have hW0 : Below B w1 (w1.alloc (.cells #[] 31)) := (Below.refl _ w1).alloc hB0 _
  have Hw1 := hid hw1
  clear hw1 hB
  go_enter Try.func36, Try.ntmps36
  go_wp2_with fail
  rw [← Hw1.out]
  go_loopg [5, 6, 7] L (fun gk u t i wr => ∃ k : Nat, gk + k = L ∧ i = .int .i64 k ∧ t = .bool ((l.take k).any fun x => decide (cmpK e.key x.key ≤ 0)) ∧ wr.ownsRow B 31 9 u (half e (l.take k)).length (flat ecs (half e (l.take k))) ∧ Below B w1 wr)
  case atStart => exact ⟨0, by omega, rfl, rfl, hO0, hW0⟩
  case round =>
    obtain ⟨k, hk, rfl, rfl, hown, hBl⟩ := hrel
    have HO := hid hown
    have HBl := hid hBl
    clear hown hBl hO0 hW0
    have hhl := half_len e (l.take k)
    have hhk : (l.take k).length ≤ k := by simp; omega
    by_cases hlt : k < L
    · obtain ⟨x, hx⟩ := get_lt HL.out hlt
      have htk : l.take (k + 1) = l.take k ++ [x] := by rw [List.take_add_one, hx]; rfl
      have hbw : Below w.heap.size w wr := HB1.out.trans (HBl.out.mono (by omega))
      obtain ⟨b, o, rfl, hb, c0, c1, c2, c3, c4, c5, c6, c7, c8⟩ := (HT.out.below hbw).ev hx
      obtain ⟨e0, e1, e2, e3, e4, e5, e6, e7, e8⟩ := (HA.out.belowB HBl.out (by omega)).nine
      have he : w.heap.size < wr.heap.size := by have := hbw.size; have := HBl.out.size; omega
      have hK : Hid (∀ W, Gr wr W → W.cell? ⟨b, o + k * 9, none⟩ = some (.int .i64 x.key.f) ∧ W.cell? ⟨b, o + k * 9 + 1, none⟩ = some (.int .i64 x.key.e) ∧ W.cell? ⟨b, o + k * 9 + 2, none⟩ = some (.int .i64 x.key.k) ∧ W.cell? ⟨b, o + k * 9 + 3, none⟩ = some (.int .i64 x.key.o) ∧ W.cell? ⟨b, o + k * 9 + 4, none⟩ = some (.int .i64 x.a) ∧ W.cell? ⟨b, o + k * 9 + 5, none⟩ = some (.int .i64 x.g) ∧ W.cell? ⟨b, o + k * 9 + 6, none⟩ = some (.int .i64 x.p) ∧ W.cell? ⟨b, o + k * 9 + 7, none⟩ = some (.int .i64 x.r) ∧ W.cell? ⟨b, o + k * 9 + 8, none⟩ = some (.int .i64 x.l) ∧ W.cell? ⟨w.heap.size, 0, none⟩ = some (.int .i64 e.key.f) ∧ W.cell? ⟨w.heap.size, 1, none⟩ = some (.int .i64 e.key.e) ∧ W.cell? ⟨w.heap.size, 2, none⟩ = some (.int .i64 e.key.k) ∧ W.cell? ⟨w.heap.size, 3, none⟩ = some (.int .i64 e.key.o) ∧ W.cell? ⟨w.heap.size, 4, none⟩ = some (.int .i64 e.a) ∧ W.cell? ⟨w.heap.size, 5, none⟩ = some (.int .i64 e.g) ∧ W.cell? ⟨w.heap.size, 6, none⟩ = some (.int .i64 e.p) ∧ W.cell? ⟨w.heap.size, 7, none⟩ = some (.int .i64 e.r) ∧ W.cell? ⟨w.heap.size, 8, none⟩ = some (.int .i64 e.l)) := hid (fun W g => ⟨(g.below.cell (p := ⟨b, _, none⟩) hb).trans c0, (g.below.cell (p := ⟨b, _, none⟩) hb).trans c1, (g.below.cell (p := ⟨b, _, none⟩) hb).trans c2, (g.below.cell (p := ⟨b, _, none⟩) hb).trans c3, (g.below.cell (p := ⟨b, _, none⟩) hb).trans c4, (g.below.cell (p := ⟨b, _, none⟩) hb).trans c5, (g.below.cell (p := ⟨b, _, none⟩) hb).trans c6, (g.below.cell (p := ⟨b, _, none⟩) hb).trans c7, (g.below.cell (p := ⟨b, _, none⟩) hb).trans c8, (g.below.cell (p := ⟨w.heap.size, _, none⟩) he).trans e0, (g.below.cell (p := ⟨w.heap.size, _, none⟩) he).trans e1, (g.below.cell (p := ⟨w.heap.size, _, none⟩) he).trans e2, (g.below.cell (p := ⟨w.heap.size, _, none⟩) he).trans e3, (g.below.cell (p := ⟨w.heap.size, _, none⟩) he).trans e4, (g.below.cell (p := ⟨w.heap.size, _, none⟩) he).trans e5, (g.below.cell (p := ⟨w.heap.size, _, none⟩) he).trans e6, (g.below.cell (p := ⟨w.heap.size, _, none⟩) he).trans e7, (g.below.cell (p := ⟨w.heap.size, _, none⟩) he).trans e8⟩)
      have HTK := hid htk
      have HX := hid hx
      have hk1 : (k : Int) < (L : Int) := by omega
      have hk0 : (0 : Int) ≤ (k : Int) := by omega
      clear hx htk hbw
      cases hP : (l.take k).any fun x => decide (cmpK e.key x.key ≤ 0)
      case true =>
        have HN : Hid (half e (l.take (k + 1)) = half e (l.take k) ++ [x]) := hid (by
          unfold half
          rw [HTK.out, List.any_append, hP, put_some _ hP]
          simp)
        have HP2 : Hid (((l.take (k + 1)).any fun x => decide (cmpK e.key x.key ≤ 0)) = true) := hid (by rw [HTK.out, List.any_append, hP]; rfl)
        clear hP
        go_wp2_with fail
        refine wp_region_noPanic ?_
        refine wp_region_held_drew (S := (fun W => Gr wr W)) (by kernel_rfl) (by first | exact gd1 (gr _) | exact gr _) (fun hHeld => ?_)
        (refine takeW (i := 0) (d := 15) (v := ?_) rfl rfl (by kernel_rfl) (by kernel_rfl) (by kernel_rfl) (fun _ _ _ h => h) (by rfl) ?_ (by assumption) ?_)
        rotate_left
        · (intro W hSW; go_simp; (try with_reducible rfl))
        simp only [Act.put, List.setIfInBounds_toArray, List.set_cons_zero, List.set_cons_succ]
        (refine takeW (i := 1) (d := 16) (v := ?_) rfl rfl (by kernel_rfl) (by kernel_rfl) (by kernel_rfl) (fun _ _ _ h => h) (by rfl) ?_ (by assumption) ?_)
        rotate_left
        · (intro W hSW; go_simp; (try with_reducible rfl))
        simp only [Act.put, List.setIfInBounds_toArray, List.set_cons_zero, List.set_cons_succ]
        (refine takeW (i := 2) (d := 17) (v := ?_) rfl rfl (by kernel_rfl) (by kernel_rfl) (by kernel_rfl) (fun _ _ _ h => h) (by rfl) ?_ (by assumption) ?_)
        rotate_left
        · (intro W hSW; go_simp; (try with_reducible rfl))
        simp only [Act.put, List.setIfInBounds_toArray, List.set_cons_zero, List.set_cons_succ]
        refine skipW (i := 3) (d := 18) rfl rfl (by kernel_rfl) (by kernel_rfl) (by kernel_rfl) (fun _ _ _ h => h) (by rfl) (by assumption) ?_
        simp only [Act.put, List.setIfInBounds_toArray, List.set_cons_zero, List.set_cons_succ]
        refine skipW (i := 4) (d := 19) rfl rfl (by kernel_rfl) (by kernel_rfl) (by kernel_rfl) (fun _ _ _ h => h) (by rfl) (by assumption) ?_
        simp only [Act.put, List.setIfInBounds_toArray, List.set_cons_zero, List.set_cons_succ]
        refine skipW (i := 5) (d := 20) rfl rfl (by kernel_rfl) (by kernel_rfl) (by kernel_rfl) (fun _ _ _ h => h) (by rfl) (by assumption) ?_
        simp only [Act.put, List.setIfInBounds_toArray, List.set_cons_zero, List.set_cons_succ]
        refine skipW (i := 6) (d := 21) rfl rfl (by kernel_rfl) (by kernel_rfl) (by kernel_rfl) (fun _ _ _ h => h) (by rfl) (by assumption) ?_
        simp only [Act.put, List.setIfInBounds_toArray, List.set_cons_zero, List.set_cons_succ]
        refine skipW (i := 7) (d := 22) rfl rfl (by kernel_rfl) (by kernel_rfl) (by kernel_rfl) (fun _ _ _ h => h) (by rfl) (by assumption) ?_
        simp only [Act.put, List.setIfInBounds_toArray, List.set_cons_zero, List.set_cons_succ]
        refine skipW (i := 8) (d := 23) rfl rfl (by kernel_rfl) (by kernel_rfl) (by kernel_rfl) (fun _ _ _ h => h) (by rfl) (by assumption) ?_
        simp only [Act.put, List.setIfInBounds_toArray, List.set_cons_zero, List.set_cons_succ]
        refine skipW (i := 9) (d := 24) rfl rfl (by kernel_rfl) (by kernel_rfl) (by kernel_rfl) (fun _ _ _ h => h) (by rfl) (by assumption) ?_
        simp only [Act.put, List.setIfInBounds_toArray, List.set_cons_zero, List.set_cons_succ]
        refine skipW (i := 10) (d := 25) rfl rfl (by kernel_rfl) (by kernel_rfl) (by kernel_rfl) (fun _ _ _ h => h) (by rfl) (by assumption) ?_
        simp only [Act.put, List.setIfInBounds_toArray, List.set_cons_zero, List.set_cons_succ]
        refine skipW (i := 11) (d := 26) rfl rfl (by kernel_rfl) (by kernel_rfl) (by kernel_rfl) (fun _ _ _ h => h) (by rfl) (by assumption) ?_
        simp only [Act.put, List.setIfInBounds_toArray, List.set_cons_zero, List.set_cons_succ]
        (refine takeW (i := 12) (d := 27) (v := ?_) rfl rfl (by kernel_rfl) (by kernel_rfl) (by kernel_rfl) (fun _ _ _ h => h) (by rfl) ?_ (by assumption) ?_)
        rotate_left
        · (intro W hSW; go_simp; (try with_reducible rfl))
        simp only [Act.put, List.setIfInBounds_toArray, List.set_cons_zero, List.set_cons_succ]
        refine wpAnyH_done (by kernel_rfl) ?_ _
        refine NoPanic.normal ?_
        clear c0 c1 c2 c3 c4 c5 c6 c7 c8 e0 e1 e2 e3 e4 e5 e6 e7 e8
        obtain ⟨c0, c1, c2, c3, c4, c5, c6, c7, c8, e0, e1, e2, e3, e4, e5, e6, e7, e8⟩ := hK.out _ (gd1 (gr wr))
        go_wp2_with (at_builtin; refine app_ev _ rfl (.tmp 32) (.tmp 37) rfl B _ _ rfl (own_gr HO.out (gd1 (gr wr))) w1 (below_gr HBl.out hB0 (gd1 (gr wr))) hB0 x rfl (by omega) ?_; intro v2 w2 hown2 hB2 _ _)
        go_roundg (gk - 1)
        case measure => omega
        case rel => exact ⟨k + 1, by omega, by go_num, by rw [HP2.out], by rw [HN.out]; exact hown2, hB2⟩
      case false =>
        have HH : Hid (half e (l.take k) = l.take k) := hid (by unfold half; rw [hP]; simp)
        by_cases hq : cmpK e.key x.key ≤ 0
        · have HN : Hid (half e (l.take (k + 1)) = (l.take k ++ [e]) ++ [x]) := hid (by
            unfold half
            rw [HTK.out, List.any_append, hP, put_none _ hP]
            simp [hq, putL])
          have HP2 : Hid (((l.take (k + 1)).any fun x => decide (cmpK e.key x.key ≤ 0)) = true) := hid (by rw [HTK.out, List.any_append, hP]; simp [hq])
          have hd : decide (cmpK e.key x.key ≤ 0) = true := by simpa using hq
          rw [HH.out] at HO hhl
          clear hP hq
          go_wp2_with fail
          refine wp_region_noPanic ?_
          refine wp_region_held_drew (S := (fun W => Gr wr W)) (by kernel_rfl) (by first | exact gd1 (gr _) | exact gr _) (fun hHeld => ?_)
          (refine takeW (i := 0) (d := 15) (v := ?_) rfl rfl (by kernel_rfl) (by kernel_rfl) (by kernel_rfl) (fun _ _ _ h => h) (by rfl) ?_ (by assumption) ?_)
          rotate_left
          · (intro W hSW; go_simp; (try with_reducible rfl))
          simp only [Act.put, List.setIfInBounds_toArray, List.set_cons_zero, List.set_cons_succ]
          (refine takeW (i := 1) (d := 16) (v := ?_) rfl rfl (by kernel_rfl) (by kernel_rfl) (by kernel_rfl) (fun _ _ _ h => h) (by rfl) ?_ (by assumption) ?_)
          rotate_left
          · (intro W hSW; go_simp; (try with_reducible rfl))
          simp only [Act.put, List.setIfInBounds_toArray, List.set_cons_zero, List.set_cons_succ]
          (refine takeW (i := 2) (d := 17) (v := ?_) rfl rfl (by kernel_rfl) (by kernel_rfl) (by kernel_rfl) (fun _ _ _ h => h) (by rfl) ?_ (by assumption) ?_)
          rotate_left
          · (intro W hSW; go_simp; (try with_reducible rfl))
          simp only [Act.put, List.setIfInBounds_toArray, List.set_cons_zero, List.set_cons_succ]
          (refine takeW (i := 3) (d := 18) (v := ?_) rfl rfl (by kernel_rfl) (by kernel_rfl) (by kernel_rfl) (fun _ _ _ h => h) (by rfl) ?_ (by assumption) ?_)
          rotate_left
          · (intro W hSW; go_simp; (try with_reducible rfl))
          simp only [Act.put, List.setIfInBounds_toArray, List.set_cons_zero, List.set_cons_succ]
          (refine takeW (i := 4) (d := 19) (v := ?_) rfl rfl (by kernel_rfl) (by kernel_rfl) (by kernel_rfl) (fun _ _ _ h => h) (by rfl) ?_ (by assumption) ?_)
          rotate_left
          · (intro W hSW; have hSW2 := hK.out W hSW; go_simp; (try with_reducible rfl))
          simp only [Act.put, List.setIfInBounds_toArray, List.set_cons_zero, List.set_cons_succ]
          (refine takeW (i := 5) (d := 20) (v := ?_) rfl rfl (by kernel_rfl) (by kernel_rfl) (by kernel_rfl) (fun _ _ _ h => h) (by rfl) ?_ (by assumption) ?_)
          rotate_left
          · (intro W hSW; go_simp; (try with_reducible rfl))
          simp only [Act.put, List.setIfInBounds_toArray, List.set_cons_zero, List.set_cons_succ]
          (refine takeW (i := 6) (d := 21) (v := ?_) rfl rfl (by kernel_rfl) (by kernel_rfl) (by kernel_rfl) (fun _ _ _ h => h) (by rfl) ?_ (by assumption) ?_)
          rotate_left
          · (intro W hSW; go_simp; (try with_reducible rfl))
          simp only [Act.put, List.setIfInBounds_toArray, List.set_cons_zero, List.set_cons_succ]
          (refine takeW (i := 7) (d := 22) (v := ?_) rfl rfl (by kernel_rfl) (by kernel_rfl) (by kernel_rfl) (fun _ _ _ h => h) (by rfl) ?_ (by assumption) ?_)
          rotate_left
          · (intro W hSW; go_simp; (try with_reducible rfl))
          simp only [Act.put, List.setIfInBounds_toArray, List.set_cons_zero, List.set_cons_succ]
          (refine takeW (i := 8) (d := 23) (v := ?_) rfl rfl (by kernel_rfl) (by kernel_rfl) (by kernel_rfl) (fun _ _ _ h => h) (by rfl) ?_ (by assumption) ?_)
          rotate_left
          · (intro W hSW; go_simp; (try with_reducible rfl))
          simp only [Act.put, List.setIfInBounds_toArray, List.set_cons_zero, List.set_cons_succ]
          (refine takeW (i := 9) (d := 24) (v := ?_) rfl rfl (by kernel_rfl) (by kernel_rfl) (by kernel_rfl) (fun _ _ _ h => h) (by rfl) ?_ (by assumption) ?_)
          rotate_left
          · (intro W hSW; have hSW2 := hK.out W hSW; go_simp; (try with_reducible rfl))
          simp only [Act.put, List.setIfInBounds_toArray, List.set_cons_zero, List.set_cons_succ]
          refine wpAnyH_ready (rs := [10]) (by kernel_rfl) (by simp) ?_
          refine AllReadyH.cons (i := 10) rfl (fun K hKK => ?_) AllReadyH.nil
          go_simp
          ((refine (rcompare_c e.key x.key _).mono ?_); rintro e1 y3 ⟨rfl, hy3⟩; have hgy3 := gt (show Gr wr _ by first | with_reducible assumption | exact gd1 (gr _)) hy3; clear hy3)
          dsimp only
          refine hKK.out _ _ hgy3 (fun hHeld => ?_)
          clear hKK K
          (try simp only [Act.put, List.setIfInBounds_toArray, List.set_cons_zero, List.set_cons_succ])
          (refine takeW (i := 11) (d := 26) (v := ?_) rfl rfl (by kernel_rfl) (by kernel_rfl) (by kernel_rfl) (fun _ _ _ h => h) (by rfl) ?_ (by assumption) ?_)
          rotate_left
          · (intro W hSW; go_simp; (try with_reducible rfl))
          simp only [Act.put, List.setIfInBounds_toArray, List.set_cons_zero, List.set_cons_succ]
          (refine takeW (i := 12) (d := 27) (v := ?_) rfl rfl (by kernel_rfl) (by kernel_rfl) (by kernel_rfl) (fun _ _ _ h => h) (by rfl) ?_ (by assumption) ?_)
          rotate_left
          · (intro W hSW; go_simp; (try with_reducible rfl))
          simp only [Act.put, List.setIfInBounds_toArray, List.set_cons_zero, List.set_cons_succ]
          refine wpAnyH_done (by kernel_rfl) ?_ _
          refine NoPanic.normal ?_
          clear c0 c1 c2 c3 c4 c5 c6 c7 c8 e0 e1 e2 e3 e4 e5 e6 e7 e8
          obtain ⟨c0, c1, c2, c3, c4, c5, c6, c7, c8, e0, e1, e2, e3, e4, e5, e6, e7, e8⟩ := hK.out _ hgy3
          go_wp2_with (first
            | (at_builtin; refine app_ev _ rfl (.tmp 28) (.tmp 30) rfl B _ _ rfl (own_gr HO.out hgy3) w1 (below_gr HBl.out hB0 hgy3) hB0 e rfl (by omega) ?_; intro v2 w2 hown2 hB2 _ _; have hbw2 : Below w.heap.size w w2 := HB1.out.trans (hB2.mono (by omega)); obtain ⟨b2, o2, eo, hb2, f0, f1, f2, f3, f4, f5, f6, f7, f8⟩ := (HT.out.below hbw2).ev HX.out; injection eo with eo; injection eo with eb eo; subst eb eo)
            | (at_builtin; refine app_ev _ rfl (.tmp 32) (.tmp 37) rfl B _ _ rfl hown2 w1 hB2 hB0 x rfl (by simp; omega) ?_; intro v3 w3 hown3 hB3 _ _))
          go_roundg (gk - 1)
          case measure => omega
          case rel => exact ⟨k + 1, by omega, by go_num, by rw [HP2.out], by rw [HN.out]; exact hown3, hB3⟩
        · have HN : Hid (half e (l.take (k + 1)) = l.take k ++ [x]) := hid (by
            unfold half
            rw [HTK.out, List.any_append, hP]
            simp [hq])
          have HP2 : Hid (((l.take (k + 1)).any fun x => decide (cmpK e.key x.key ≤ 0)) = false) := hid (by rw [HTK.out, List.any_append, hP]; simp [hq])
          have hd : decide (cmpK e.key x.key ≤ 0) = false := by simpa using hq
          rw [HH.out] at HO hhl
          clear hP
          go_wp2_with fail
          refine wp_region_noPanic ?_
          refine wp_region_held_drew (S := (fun W => Gr wr W)) (by kernel_rfl) (by first | exact gd1 (gr _) | exact gr _) (fun hHeld => ?_)
          (refine takeW (i := 0) (d := 15) (v := ?_) rfl rfl (by kernel_rfl) (by kernel_rfl) (by kernel_rfl) (fun _ _ _ h => h) (by rfl) ?_ (by assumption) ?_)
          rotate_left
          · (intro W hSW; go_simp; (try with_reducible rfl))
          simp only [Act.put, List.setIfInBounds_toArray, List.set_cons_zero, List.set_cons_succ]
          (refine takeW (i := 1) (d := 16) (v := ?_) rfl rfl (by kernel_rfl) (by kernel_rfl) (by kernel_rfl) (fun _ _ _ h => h) (by rfl) ?_ (by assumption) ?_)
          rotate_left
          · (intro W hSW; go_simp; (try with_reducible rfl))
          simp only [Act.put, List.setIfInBounds_toArray, List.set_cons_zero, List.set_cons_succ]
          (refine takeW (i := 2) (d := 17) (v := ?_) rfl rfl (by kernel_rfl) (by kernel_rfl) (by kernel_rfl) (fun _ _ _ h => h) (by rfl) ?_ (by assumption) ?_)
          rotate_left
          · (intro W hSW; go_simp; (try with_reducible rfl))
          simp only [Act.put, List.setIfInBounds_toArray, List.set_cons_zero, List.set_cons_succ]
          (refine takeW (i := 3) (d := 18) (v := ?_) rfl rfl (by kernel_rfl) (by kernel_rfl) (by kernel_rfl) (fun _ _ _ h => h) (by rfl) ?_ (by assumption) ?_)
          rotate_left
          · (intro W hSW; go_simp; (try with_reducible rfl))
          simp only [Act.put, List.setIfInBounds_toArray, List.set_cons_zero, List.set_cons_succ]
          (refine takeW (i := 4) (d := 19) (v := ?_) rfl rfl (by kernel_rfl) (by kernel_rfl) (by kernel_rfl) (fun _ _ _ h => h) (by rfl) ?_ (by assumption) ?_)
          rotate_left
          · (intro W hSW; have hSW2 := hK.out W hSW; go_simp; (try with_reducible rfl))
          simp only [Act.put, List.setIfInBounds_toArray, List.set_cons_zero, List.set_cons_succ]
          (refine takeW (i := 5) (d := 20) (v := ?_) rfl rfl (by kernel_rfl) (by kernel_rfl) (by kernel_rfl) (fun _ _ _ h => h) (by rfl) ?_ (by assumption) ?_)
          rotate_left
          · (intro W hSW; go_simp; (try with_reducible rfl))
          simp only [Act.put, List.setIfInBounds_toArray, List.set_cons_zero, List.set_cons_succ]
          (refine takeW (i := 6) (d := 21) (v := ?_) rfl rfl (by kernel_rfl) (by kernel_rfl) (by kernel_rfl) (fun _ _ _ h => h) (by rfl) ?_ (by assumption) ?_)
          rotate_left
          · (intro W hSW; go_simp; (try with_reducible rfl))
          simp only [Act.put, List.setIfInBounds_toArray, List.set_cons_zero, List.set_cons_succ]
          (refine takeW (i := 7) (d := 22) (v := ?_) rfl rfl (by kernel_rfl) (by kernel_rfl) (by kernel_rfl) (fun _ _ _ h => h) (by rfl) ?_ (by assumption) ?_)
          rotate_left
          · (intro W hSW; go_simp; (try with_reducible rfl))
          simp only [Act.put, List.setIfInBounds_toArray, List.set_cons_zero, List.set_cons_succ]
          (refine takeW (i := 8) (d := 23) (v := ?_) rfl rfl (by kernel_rfl) (by kernel_rfl) (by kernel_rfl) (fun _ _ _ h => h) (by rfl) ?_ (by assumption) ?_)
          rotate_left
          · (intro W hSW; go_simp; (try with_reducible rfl))
          simp only [Act.put, List.setIfInBounds_toArray, List.set_cons_zero, List.set_cons_succ]
          (refine takeW (i := 9) (d := 24) (v := ?_) rfl rfl (by kernel_rfl) (by kernel_rfl) (by kernel_rfl) (fun _ _ _ h => h) (by rfl) ?_ (by assumption) ?_)
          rotate_left
          · (intro W hSW; have hSW2 := hK.out W hSW; go_simp; (try with_reducible rfl))
          simp only [Act.put, List.setIfInBounds_toArray, List.set_cons_zero, List.set_cons_succ]
          refine wpAnyH_ready (rs := [10]) (by kernel_rfl) (by simp) ?_
          refine AllReadyH.cons (i := 10) rfl (fun K hKK => ?_) AllReadyH.nil
          go_simp
          ((refine (rcompare_c e.key x.key _).mono ?_); rintro e1 y3 ⟨rfl, hy3⟩; have hgy3 := gt (show Gr wr _ by first | with_reducible assumption | exact gd1 (gr _)) hy3; clear hy3)
          dsimp only
          refine hKK.out _ _ hgy3 (fun hHeld => ?_)
          clear hKK K
          (try simp only [Act.put, List.setIfInBounds_toArray, List.set_cons_zero, List.set_cons_succ])
          (refine takeW (i := 11) (d := 26) (v := ?_) rfl rfl (by kernel_rfl) (by kernel_rfl) (by kernel_rfl) (fun _ _ _ h => h) (by rfl) ?_ (by assumption) ?_)
          rotate_left
          · (intro W hSW; go_simp; (try with_reducible rfl))
          simp only [Act.put, List.setIfInBounds_toArray, List.set_cons_zero, List.set_cons_succ]
          (refine takeW (i := 12) (d := 27) (v := ?_) rfl rfl (by kernel_rfl) (by kernel_rfl) (by kernel_rfl) (fun _ _ _ h => h) (by rfl) ?_ (by assumption) ?_)
          rotate_left
          · (intro W hSW; go_simp; (try with_reducible rfl))
          simp only [Act.put, List.setIfInBounds_toArray, List.set_cons_zero, List.set_cons_succ]
          refine wpAnyH_done (by kernel_rfl) ?_ _
          refine NoPanic.normal ?_
          clear c0 c1 c2 c3 c4 c5 c6 c7 c8 e0 e1 e2 e3 e4 e5 e6 e7 e8
          obtain ⟨c0, c1, c2, c3, c4, c5, c6, c7, c8, e0, e1, e2, e3, e4, e5, e6, e7, e8⟩ := hK.out _ hgy3
          go_wp2_with (at_builtin; refine app_ev _ rfl (.tmp 32) (.tmp 37) rfl B _ _ rfl (own_gr HO.out hgy3) w1 (below_gr HBl.out hB0 hgy3) hB0 x rfl (by omega) ?_; intro v2 w2 hown2 hB2 _ _)
          go_roundg (gk - 1)
          case measure => omega
          case rel => exact ⟨k + 1, by omega, by go_num, by rw [HP2.out], by rw [HN.out]; exact hown2, hB2⟩
    · have htl : l.take k = l := List.take_of_length_le (by have := HL.out; omega)
      rw [htl] at HO hhl ⊢
      have hll := HL.out
      obtain ⟨e0, e1, e2, e3, e4, e5, e6, e7, e8⟩ := (HA.out.belowB HBl.out (by omega)).nine
      have hd0 : decide ((k : Int) < (L : Int)) = false := by simp; omega
      have HLL := hid hll
      clear htl hll
      cases hP : l.any fun x => decide (cmpK e.key x.key ≤ 0)
      case true =>
        have HN : Hid (half e l = putL e l) := hid (by unfold half; rw [hP]; simp)
        rw [HN.out] at HO
        clear hP
        go_wp2_with fail
        go_ret
        exact ⟨_, rfl, owns_base HO.out (by omega), HB1.out.trans (HBl.out.mono (by omega))⟩
      case false =>
        have HN : Hid (putL e l = l ++ [e]) := hid (by have := put_none (e := e) [] hP; simpa [putL] using this)
        have HH : Hid (half e l = l) := hid (by unfold half; rw [hP]; simp)
        rw [HH.out] at HO
        clear hP
        go_wp2_with (at_builtin; refine app_ev _ rfl (.tmp 41) (.tmp 43) rfl B _ _ rfl HO.out w1 HBl.out hB0 e rfl (by have := HLL.out; omega) ?_; intro v2 w2 hown2 hB2 _ _)
        go_ret
        rw [HN.out]
        exact ⟨_, rfl, owns_base hown2 (by omega), HB1.out.trans (hB2.mono (by omega))⟩

end Go.Proofs.Ytfkbkfaiplhehaa.Ev
