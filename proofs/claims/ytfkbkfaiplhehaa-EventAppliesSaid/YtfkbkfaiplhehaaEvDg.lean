/- What Diff returns of two lists in order (layer 11, event). -/
import Derived.Test.YtfkbkfaiplhehaaEvDf
namespace Go.Proofs.Ytfkbkfaiplhehaa.Ev
open Go.RowKit Go.Shelf
set_option linter.unusedVariables false
attribute [local go_sem] Oper.semAt_some

theorem Dm.own {β : Type} {w : World} {B C : Nat} {f t : Value} {lg : β → List Ky} {lf lt : List Ev} (hB : w.heap.size ≤ B) : OwnFrom B (fun (s : β) W => ∃ g, Dm w W C g f t (lg s) lf lt) := by
  intro s W W' row hs hg hr
  obtain ⟨g, h⟩ := hs
  exact ⟨g, h.kept hg (fun r e => .inr (hr r e).2) (fun r e => Nat.le_trans hB (hr r e).1)⟩
theorem gone_snoc (now : List Ev) (pre : List Ky) (x : Ky) : (pre ++ [x]).filter (fun k => (getK now k).isNone) = if (getK now x).isNone then pre.filter (fun k => (getK now k).isNone) ++ [x] else pre.filter (fun k => (getK now k).isNone) := by
  rw [List.filter_append]
  split <;> rename_i h <;> simp [h]
theorem filter_step {α : Type} {q : α → Bool} {l : List α} {k : Nat} {x : α} (hx : l[k]? = some x) : (l.take (k + 1)).filter q = if q x = true then (l.take k).filter q ++ [x] else (l.take k).filter q := by
  rw [List.take_add_one, hx]
  cases h : q x <;> simp [h]
theorem fresh_step {was now : List Ev} {k : Nat} {x : Ev} (hx : now[k]? = some x) : freshL was (now.take (k + 1)) = if (getK was x.key).isNone = true then freshL was (now.take k) ++ [x] else freshL was (now.take k) := filter_step hx
theorem turned_step {was now : List Ev} {k : Nat} {x : Ev} (hx : now[k]? = some x) : turnedL was (now.take (k + 1)) = if ((getK was x.key).isSome && decide (getK was x.key ≠ some x)) = true then turnedL was (now.take k) ++ [x] else turnedL was (now.take k) := filter_step hx
theorem own_form {w : World} {B n k : Nat} {t : TypeId} {v : Value} {xs : List Value} (h : w.ownsRow B t k v n xs) : ∃ ao cap, v = .slice ao n cap := by
  rcases h.2 with ⟨rfl, rfl⟩ | ⟨g, cap, cur, rfl, _⟩
  · exact ⟨_, _, rfl⟩
  · exact ⟨_, _, rfl⟩
theorem own_form1 {α : Type} {l : List α} {x : α} {w : World} {B k : Nat} {t : TypeId} {v : Value} {xs : List Value} (h : w.ownsRow B t k v (l ++ [x]).length xs) : ∃ ao cap, v = .slice ao (l.length + 1) cap := by
  obtain ⟨ao, cap, e⟩ := own_form h
  exact ⟨ao, cap, by rw [e]; simp⟩
theorem filter_len {α : Type} (q : α → Bool) (l : List α) {n : Nat} (h : l.length ≤ n) : (l.filter q).length ≤ n := Nat.le_trans (List.length_filter_le _ _) h

set_option maxRecDepth 100000 in
set_option maxHeartbeats 4000000 in
theorem diff_yes (u v : Value) (was now : List Ev) (w : World) (hu : Evs w u was) (hv : Evs w v now) (h1 : ordB was = true) (h2 : ordB now = true) :
    Calls Try.prog 19 #[u, v] w fun e w' => ∃ g f t, e = .returned (.tuple #[.agg #[g, f, t], .int .i64 0]) ∧ Kys w' g (goneL was now) ∧ Evs w' f (freshL was now) ∧ Evs w' t (turnedL was now) ∧ Below w.heap.size w w' := by
  refine (callsIn_wide (n := 6)).1 ?_
  have hn6 : 1 ≤ 6 := by omega
  have hw1 : Fence.wide.fn 16 := trivial
  have hw2 : Fence.wide.fn 35 := trivial
  have hw3 : Fence.wide.fn 42 := trivial
  have HB0 := hid (bal (bal (br w) (.cells #[v] 22)) (.cells #[.slice none 0 0, .slice none 0 0, .slice none 0 0] 38))
  have HV := hid ((At.new w #[v] 22).more (.cells #[.slice none 0 0, .slice none 0 0, .slice none 0 0] 38))
  have HRs := hid (At.newAt (w.alloc (.cells #[v] 22)) #[.slice none 0 0, .slice none 0 0, .slice none 0 0] 38 (n := w.heap.size + 1) (by simp))
  have HO1 := hid (fun W (g : Below w.heap.size w W) => ordered_c u was W (hu.below g))
  have HO2 := hid (fun W (g : Below w.heap.size w W) => ordered_c v now W (hv.below g))
  have HKo := hid (fun W (g : Below w.heap.size w W) => keysof_n w.heap.size u was W (hu.b.below g) g.size)
  obtain ⟨_, hup1, hl1⟩ := ord_parts h1
  obtain ⟨_, hup2, hl2⟩ := ord_parts h2
  have HF1 := hid (fun W q (g : Below w.heap.size w W) => find_c v now q W (hv.below g) hup2 (by omega))
  have HF2 := hid (fun W q (g : Below w.heap.size w W) => find_c u was q W (hu.below g) hup1 (by omega))
  rw [h1] at HO1
  rw [h2] at HO2
  obtain ⟨ao, L, cap, rfl, hL, hc, hm, ht⟩ := hu
  obtain ⟨ao2, L2, cap2, rfl, hL2, hc2, hm2, ht2⟩ := hv
  have HL := hid hL
  have HL2 := hid hL2
  have HT2 := hid ht2
  clear hL ht hL2 ht2
  refine callsIn_of_wp_marks Try.func19 rfl trivial ?_ rfl
  simp only [Try.ntmps19, List.size_toArray, List.length_cons, List.length_nil, Nat.reduceAdd, Nat.reduceSub, Array.replicate_succ, Array.replicate_zero, List.push_toArray, List.append_toArray, List.nil_append, List.cons_append]
  gi_wp2_with (first
    | (gi_at_call 16; refine (callsIn_wide.2 (HO1.out _ HB0.out)).mono ?_; rintro e w1 ⟨rfl, g1⟩; have a0 := (HV.out.below g1).one; have HV1 := hid (HV.out.below g1); have HR1 := hid (HRs.out.below g1); have HB1 := hid (bt HB0.out g1); clear g1 HO1)
    | (gi_at_call 16; refine (callsIn_wide.2 (HO2.out _ HB1.out)).mono ?_; rintro e w2 ⟨rfl, g2⟩; have HV2 := hid (HV1.out.below g2); have HR2 := hid (HR1.out.below g2); have HB2 := hid (bt HB1.out g2); clear g2 HO2)
    | (gi_at_call 35; refine (callsIn_wide.2 (HKo.out _ (bal HB2.out _))).mono ?_; rintro e w4 ⟨fv, rfl, hs, g4⟩))
  have hg4 := bt (bal (br w2) (.cells #[.slice none 0 0, .slice none 0 0, .slice none 0 0] 38)) g4.below
  have hV4 := HV2.out.below hg4
  have hR4 := HR2.out.below hg4
  have hB4 := bt HB2.out hg4
  have hC4 := (At.new w2 #[.slice none 0 0, .slice none 0 0, .slice none 0 0] 38).below g4.below
  have hs2 : w.heap.size + 1 < w2.heap.size := HR2.out.lt
  have hD4 : Dm w w4 w2.heap.size (.slice none 0 0) (.slice none 0 0) (.slice none 0 0) [] [] [] := ⟨hC4, by omega, World.ownsRow_nil _ _ _ _, World.ownsRow_nil _ _ _ _, World.ownsRow_nil _ _ _ _, .inl rfl, hB4⟩
  have hw24 : w2.heap.size + 1 ≤ w4.heap.size := by have := g4.below.size; simpa using this
  obtain ⟨gf, lb, rfl, eg, hseq⟩ := hs
  clear HB0 HV HRs HKo HV1 HR1 HB1 HV2 HR2 HB2 g4 hg4 hC4
  refine wpIn_rangeFunc_ownH rfl hn6 (gf := gf) (lb := lb) rfl trivial eg hseq belowK_t (belowK_b (by omega)) (br w4) (fun _ => rfl)
    (fun pre W => ((∃ g, Dm w W w2.heap.size g (.slice none 0 0) (.slice none 0 0) (pre.filter fun k => (getK now k).isNone) [] []) ∧ At W w.heap.size #[.slice ao2 L2 cap2] 22) ∧ At W (w.heap.size + 1) #[.slice none 0 0, .slice none 0 0, .slice none 0 0] 38)
    (fun c pre W => False)
    (OwnFrom.and (OwnFrom.and (Dm.own (by omega)) (Own.from (at_own _ _ _) _)) (Own.from (at_own _ _ _) _))
    (fun c => fun _ _ _ _ hs _ _ => hs)
    ⟨⟨⟨_, hD4⟩, hV4⟩, hR4⟩
    (fun x a' W => ∃ Bx, w2.heap.size < Bx ∧ At W Bx #[.int .i64 x.f, .int .i64 x.e, .int .i64 x.k, .int .i64 x.o] 24 ∧ a' = { tmps := #[.slice ao L cap, .slice ao2 L2 cap2, undef, .pointer (some ⟨w.heap.size, 0, none⟩), .pointer (some ⟨w.heap.size + 1, 0, none⟩), .int .i64 0, .pointer (some ⟨w2.heap.size, 0, none⟩), .pointer (some ⟨Bx, 0, none⟩), undef, undef, undef, undef, undef, undef, .slice ao L cap, .bool true, .bool false, .bool false, .slice ao2 L2 cap2, .bool true, .bool false, .bool false, undef, .slice ao L cap, .func (.func gf) #[] lb, kv x, undef, undef, undef, undef, undef, undef, undef, undef, undef, undef, undef, undef, undef, undef, undef, undef, undef, undef, undef, undef, undef, undef, undef, undef, undef, undef, undef, undef, undef, undef, undef, undef, undef, undef, undef, undef, undef, undef, undef, undef, undef, undef, undef, undef, undef, undef], defers := [] })
    ?hAx ?assign ?body ?done ?stop
  case hAx =>
    intro x a' s X Y row hs hg hr
    obtain ⟨Bx, h1, h2, h3⟩ := hs
    exact ⟨Bx, h1, Own.from (at_own (β := Unit) Bx _ (fun _ => _)) _ () X Y row h2 hg hr, h3⟩
  case assign =>
    rintro l pre x W K ⟨⟨⟨g, hD⟩, hi2⟩, hi3⟩ hK
    gi_wp2
    exact hK _ _ ((KeepsOthers.alloc _ _).from _) ((Below.refl _ W).alloc hD.old.size _) ⟨⟨⟨g, hD.below (bal (br W) _)⟩, hi2.more _⟩, hi3.more _⟩ ⟨W.heap.size, hD.ch.lt, At.new W _ _, rfl⟩
  case body =>
    rintro lp pre x a' W hlp ⟨r, hr⟩ ⟨⟨⟨g, hD⟩, hi2⟩, hi3⟩ ⟨Bx, hBx, bX, rfl⟩ hlt
    obtain ⟨x0, x1, x2, x3⟩ := bX.four
    have s0 := hi2.one
    have HX := hid bX
    have HD := hid hD
    have H2 := hid hi2
    have H3 := hid hi3
    have HP := hid (HF1.out W x hD.old)
    have HS := hid (gone_snoc now pre x)
    have hfl : (pre.filter fun k => (getK now k).isNone).length ≤ 4096 := filter_len _ _ (by have h := hlt; simp at h; omega)
    generalize (pre.filter fun k => (getK now k).isNone) = lg at HD hD HS hfl
    clear bX hi2 hi3 hD
    cases hE : (getK now x).isNone
    case false =>
      have hE2 : (getK now x).isSome = true := by cases h : getK now x <;> simp_all
      rw [hE] at HS
      rw [hE2] at HP
      generalize (getK now x).getD zeroE = y at HP
      clear hE hE2
      gi_wp2_with (gi_at_call 42; refine (CallsIn.inRound lp (callsIn_wide.2 HP.out)).mono ?_; rintro e w1 ⟨rfl, g1⟩; have G1 := hid (gal g1 (.cells #[.int .i64 y.key.f, .int .i64 y.key.e, .int .i64 y.key.k, .int .i64 y.key.o, .int .i64 y.a, .int .i64 y.g, .int .i64 y.p, .int .i64 y.r, .int .i64 y.l] 31)))
      refine ⟨G1.out.from _, G1.out.below.mono HD.out.old.size, ⟨⟨g, ?_⟩, G1.out.at H2.out⟩, G1.out.at H3.out⟩
      rw [HS.out]
      exact HD.out.below G1.out.below
    case true =>
      have hE2 : (getK now x).isSome = false := by cases h : getK now x <;> simp_all
      rw [hE] at HS
      rw [hE2] at HP
      generalize (getK now x).getD zeroE = y at HP
      clear hE hE2
      gi_wp2_with (first
        | (gi_at_call 42; refine (CallsIn.inRound lp (callsIn_wide.2 HP.out)).mono ?_; rintro e w1 ⟨rfl, g1⟩; have G1 := hid (gal g1 (.cells #[.int .i64 y.key.f, .int .i64 y.key.e, .int .i64 y.key.k, .int .i64 y.key.o, .int .i64 y.a, .int .i64 y.g, .int .i64 y.p, .int .i64 y.r, .int .i64 y.l] 31)); obtain ⟨c0, c1, c2⟩ := (HD.out.below G1.out.below).ch.three; obtain ⟨y0, y1, y2, y3⟩ := (G1.out.at HX.out).four)
        | (gi_at_builtin; refine appIn_ky _ rfl (.tmp 35) (.tmp 37) rfl w.heap.size g lg rfl (HD.out.below G1.out.below).og w (HD.out.below G1.out.below).old (Nat.le_refl _) x (by simp [Act.eval]) hfl ?_; intro v' w5 hM; obtain ⟨ao', cp', rfl⟩ := own_form1 hM.1; obtain ⟨aC, hD5⟩ := (HD.out.below G1.out.below).appG hM; have HD5 := hid hD5; clear hD5; obtain ⟨d0, d1, d2⟩ := aC.three; have fz := aC.frozen 0; have HM := hid hM; clear hM))
      refine ⟨?_, ?_, ⟨⟨.slice ao' (lg.length + 1) cp', ?_⟩, ?_⟩, ?_⟩
      · exact KeepsFrom.trans (G1.out.from _) (((keeps_row (HD.out.below G1.out.below).og HM.out.2.2.1).trans (KeepsOthers.setCell _ _ _)).from _)
      · exact (G1.out.below.mono HD.out.old.size).trans (((Below.refl w.heap.size _).grown HM.out.2.2.1 (HD.out.below G1.out.below).old.size (fun k e => ((HD.out.below G1.out.below).og.lt k e).1)).setCell (p := ⟨w2.heap.size, 0, none⟩) (by show w.heap.size ≤ w2.heap.size; omega) _)
      · rw [HS.out]
        exact HD5.out
      · exact ((G1.out.at H2.out).kept HM.out.2.2.1 ((G1.out.at H2.out).not_row (HD.out.below G1.out.below).og (by decide))).far (by omega) _
      · exact ((G1.out.at H3.out).kept HM.out.2.2.1 ((G1.out.at H3.out).not_row (HD.out.below G1.out.below).og (by decide))).far (by omega) _
  case done =>
    rintro D ys W hD0 rfl ⟨⟨⟨g, hD⟩, hi2⟩, hi3⟩ hK
    have s0 := hi2.one
    obtain ⟨lg, HLG⟩ : ∃ lg, Hid (goneL was now = lg) := ⟨_, rfl⟩
    rw [show List.filter (fun k => (getK now k).isNone) (keys was) = lg from HLG.out] at hD
    have HDW := hid hD
    have H2W := hid hi2
    have H3W := hid hi3
    have HKW := hid hK
    clear hD hi2 hi3 hK hseq hD4 hV4 hR4 hB4 HF1
    gi_wp2
    gi_loopw [42] (fun i wr => ∃ k : Nat, k ≤ L2 ∧ i = .int .i64 k ∧ (∃ f t, Dm w wr w2.heap.size g f t lg (freshL was (now.take k)) (turnedL was (now.take k))) ∧ At wr w.heap.size #[.slice ao2 L2 cap2] 22 ∧ At wr (w.heap.size + 1) #[.slice none 0 0, .slice none 0 0, .slice none 0 0] 38 ∧ wr.heap[D]? = some (.deferred (some []))) (fun i _ => L2 - (intOf i).toNat)
    case atStart => exact ⟨0, Nat.zero_le _, rfl, ⟨_, _, HDW.out⟩, H2W.out, H3W.out, HKW.out⟩
    case round =>
      obtain ⟨k, hk, rfl, ⟨f, t, hD⟩, hi2, hi3, hK⟩ := hrel
      have HD := hid hD
      have H2 := hid hi2
      have H3 := hid hi3
      have HK := hid hK
      have hlf : (freshL was (now.take k)).length ≤ 4096 := filter_len _ _ (by rw [List.length_take]; have := HL2.out; omega)
      have hlt2 : (turnedL was (now.take k)).length ≤ 4096 := filter_len _ _ (by rw [List.length_take]; have := HL2.out; omega)
      by_cases hlt : k < L2
      · obtain ⟨x, hx⟩ := get_lt HL2.out hlt
        obtain ⟨b, o, rfl, hb, x0, x1, x2, x3, x4, x5, x6, x7, x8⟩ := (HT2.out.below hD.old).ev hx
        have hk1 : (k : Int) < (L2 : Int) := by omega
        have hk0 : (0 : Int) ≤ (k : Int) := by omega
        have HP := hid (HF2.out (wr.alloc (.cells #[.int .i64 x.key.f, .int .i64 x.key.e, .int .i64 x.key.k, .int .i64 x.key.o, .int .i64 x.a, .int .i64 x.g, .int .i64 x.p, .int .i64 x.r, .int .i64 x.l] 31)) x.key (bal hD.old _))
        have HS := hid (fresh_step (was := was) hx)
        have HS2 := hid (turned_step (was := was) hx)
        generalize freshL was (now.take k) = lf at HD hD HS hlf
        generalize turnedL was (now.take k) = lt at HD hD HS2 hlt2
        clear hx hD hi2 hi3 hK
        cases hE : getK was x.key with
        | none =>
          rw [hE] at HP HS HS2
          simp only [Option.isNone_none, if_true] at HS
          simp only [Option.isSome_none, Bool.false_and, Bool.false_eq_true, if_false] at HS2
          simp only [Option.getD_none, Option.isSome_none] at HP
          obtain ⟨y, hy⟩ : ∃ y, y = zeroE := ⟨_, rfl⟩
          rw [← hy] at HP
          clear hE hy
          gi_wp2_with (first
            | (gi_at_call 42; refine (callsIn_wide.2 (HP.out)).mono ?_; rintro e w1 ⟨rfl, g1⟩; have G1 := hid (gal (gt (gal (gr wr) (.cells #[.int .i64 x.key.f, .int .i64 x.key.e, .int .i64 x.key.k, .int .i64 x.key.o, .int .i64 x.a, .int .i64 x.g, .int .i64 x.p, .int .i64 x.r, .int .i64 x.l] 31)) g1) (.cells #[.int .i64 y.key.f, .int .i64 y.key.e, .int .i64 y.key.k, .int .i64 y.key.o, .int .i64 y.a, .int .i64 y.g, .int .i64 y.p, .int .i64 y.r, .int .i64 y.l] 31)); obtain ⟨c0, c1, c2⟩ := (HD.out.below G1.out.below).ch.three; have aE := ((At.new wr #[.int .i64 x.key.f, .int .i64 x.key.e, .int .i64 x.key.k, .int .i64 x.key.o, .int .i64 x.a, .int .i64 x.g, .int .i64 x.p, .int .i64 x.r, .int .i64 x.l] 31).below (gal g1 (.cells #[.int .i64 y.key.f, .int .i64 y.key.e, .int .i64 y.key.k, .int .i64 y.key.o, .int .i64 y.a, .int .i64 y.g, .int .i64 y.p, .int .i64 y.r, .int .i64 y.l] 31)).below); obtain ⟨e0, e1, e2, e3, e4, e5, e6, e7, e8⟩ := aE.nine; have aY := At.new w1 #[.int .i64 y.key.f, .int .i64 y.key.e, .int .i64 y.key.k, .int .i64 y.key.o, .int .i64 y.a, .int .i64 y.g, .int .i64 y.p, .int .i64 y.r, .int .i64 y.l] 31; obtain ⟨y0, y1, y2, y3, y4, y5, y6, y7, y8⟩ := aY.nine)
            | (gi_at_builtin; refine appIn_ev _ rfl (.tmp 56) (.tmp 58) rfl w.heap.size f _ rfl (HD.out.below G1.out.below).of w (HD.out.below G1.out.below).old (Nat.le_refl _) x (by simp [Act.eval]) hlf ?_; intro v' w5 hM; obtain ⟨ao', cp', rfl⟩ := own_form1 hM.1; obtain ⟨aC, hD5⟩ := (HD.out.below G1.out.below).appF hM; have HD5 := hid hD5; clear hD5; obtain ⟨d0, d1, d2⟩ := aC.three; have fz1 := aC.frozen 1; have fz2 := aC.frozen 2; have HM := hid hM; clear hM))
          go_roundw
          case rel =>
            refine ⟨k + 1, by omega, by go_num, ⟨_, _, by rw [HS.out, HS2.out]; exact HD5.out⟩, ?_, ?_, ?_⟩
            · exact ((G1.out.at H2.out).kept HM.out.2.2.1 ((G1.out.at H2.out).not_row (HD.out.below G1.out.below).of (by decide))).far (by omega) _
            · exact ((G1.out.at H3.out).kept HM.out.2.2.1 ((G1.out.at H3.out).not_row (HD.out.below G1.out.below).of (by decide))).far (by omega) _
            · exact ((KeepsOthers.of_grownBy G1.out.grownBy (fun j o e => by cases e)).trans ((keeps_row (HD.out.below G1.out.below).of HM.out.2.2.1).trans (KeepsOthers.setCell _ ⟨w2.heap.size, 1, none⟩ _))).same D _ HK.out rfl
          case measure => simp [intOf]; omega
        | some y =>
          rw [hE] at HP HS HS2
          simp only [Option.isNone_some, Bool.false_eq_true, if_false] at HS
          simp only [Option.getD_some, Option.isSome_some] at HP
          clear hE
          have hgE := guardE
          have hne := neqE y x
          by_cases hyx : y = x
          · have HS3 : Hid (turnedL was (now.take (k + 1)) = lt) := hid (by rw [HS2.out]; simp [hyx])
            rw [decide_eq_true hyx] at hne
            clear HS2 hyx
            gi_wp2_with (gi_at_call 42; refine (callsIn_wide.2 (HP.out)).mono ?_; rintro e w1 ⟨rfl, g1⟩; have G1 := hid (gal (gt (gal (gr wr) (.cells #[.int .i64 x.key.f, .int .i64 x.key.e, .int .i64 x.key.k, .int .i64 x.key.o, .int .i64 x.a, .int .i64 x.g, .int .i64 x.p, .int .i64 x.r, .int .i64 x.l] 31)) g1) (.cells #[.int .i64 y.key.f, .int .i64 y.key.e, .int .i64 y.key.k, .int .i64 y.key.o, .int .i64 y.a, .int .i64 y.g, .int .i64 y.p, .int .i64 y.r, .int .i64 y.l] 31)); obtain ⟨c0, c1, c2⟩ := (HD.out.below G1.out.below).ch.three; have aE := ((At.new wr #[.int .i64 x.key.f, .int .i64 x.key.e, .int .i64 x.key.k, .int .i64 x.key.o, .int .i64 x.a, .int .i64 x.g, .int .i64 x.p, .int .i64 x.r, .int .i64 x.l] 31).below (gal g1 (.cells #[.int .i64 y.key.f, .int .i64 y.key.e, .int .i64 y.key.k, .int .i64 y.key.o, .int .i64 y.a, .int .i64 y.g, .int .i64 y.p, .int .i64 y.r, .int .i64 y.l] 31)).below); obtain ⟨e0, e1, e2, e3, e4, e5, e6, e7, e8⟩ := aE.nine; have aY := At.new w1 #[.int .i64 y.key.f, .int .i64 y.key.e, .int .i64 y.key.k, .int .i64 y.key.o, .int .i64 y.a, .int .i64 y.g, .int .i64 y.p, .int .i64 y.r, .int .i64 y.l] 31; obtain ⟨y0, y1, y2, y3, y4, y5, y6, y7, y8⟩ := aY.nine)
            go_roundw
            case rel => exact ⟨k + 1, by omega, by go_num, ⟨_, _, by rw [HS.out, HS3.out]; exact HD.out.below G1.out.below⟩, G1.out.at H2.out, G1.out.at H3.out, (KeepsOthers.of_grownBy G1.out.grownBy (fun j o e => by cases e)).same D _ HK.out rfl⟩
            case measure => simp [intOf]; omega
          · have HS3 : Hid (turnedL was (now.take (k + 1)) = lt ++ [x]) := hid (by rw [HS2.out]; simp [hyx])
            rw [decide_eq_false hyx] at hne
            clear HS2 hyx
            have HS2 := HS3
            gi_wp2_with (first
              | (gi_at_call 42; refine (callsIn_wide.2 (HP.out)).mono ?_; rintro e w1 ⟨rfl, g1⟩; have G1 := hid (gal (gt (gal (gr wr) (.cells #[.int .i64 x.key.f, .int .i64 x.key.e, .int .i64 x.key.k, .int .i64 x.key.o, .int .i64 x.a, .int .i64 x.g, .int .i64 x.p, .int .i64 x.r, .int .i64 x.l] 31)) g1) (.cells #[.int .i64 y.key.f, .int .i64 y.key.e, .int .i64 y.key.k, .int .i64 y.key.o, .int .i64 y.a, .int .i64 y.g, .int .i64 y.p, .int .i64 y.r, .int .i64 y.l] 31)); obtain ⟨c0, c1, c2⟩ := (HD.out.below G1.out.below).ch.three; have aE := ((At.new wr #[.int .i64 x.key.f, .int .i64 x.key.e, .int .i64 x.key.k, .int .i64 x.key.o, .int .i64 x.a, .int .i64 x.g, .int .i64 x.p, .int .i64 x.r, .int .i64 x.l] 31).below (gal g1 (.cells #[.int .i64 y.key.f, .int .i64 y.key.e, .int .i64 y.key.k, .int .i64 y.key.o, .int .i64 y.a, .int .i64 y.g, .int .i64 y.p, .int .i64 y.r, .int .i64 y.l] 31)).below); obtain ⟨e0, e1, e2, e3, e4, e5, e6, e7, e8⟩ := aE.nine; have aY := At.new w1 #[.int .i64 y.key.f, .int .i64 y.key.e, .int .i64 y.key.k, .int .i64 y.key.o, .int .i64 y.a, .int .i64 y.g, .int .i64 y.p, .int .i64 y.r, .int .i64 y.l] 31; obtain ⟨y0, y1, y2, y3, y4, y5, y6, y7, y8⟩ := aY.nine)
              | (gi_at_builtin; refine appIn_ev _ rfl (.tmp 65) (.tmp 67) rfl w.heap.size t _ rfl (HD.out.below G1.out.below).ot w (HD.out.below G1.out.below).old (Nat.le_refl _) x (by simp [Act.eval]) hlt2 ?_; intro v' w5 hM; obtain ⟨ao', cp', rfl⟩ := own_form1 hM.1; obtain ⟨aC, hD5⟩ := (HD.out.below G1.out.below).appT hM; have HD5 := hid hD5; clear hD5; obtain ⟨d0, d1, d2⟩ := aC.three; have fz1 := aC.frozen 1; have fz2 := aC.frozen 2; have HM := hid hM; clear hM))
            go_roundw
            case rel =>
              refine ⟨k + 1, by omega, by go_num, ⟨_, _, by rw [HS.out, HS2.out]; exact HD5.out⟩, ?_, ?_, ?_⟩
              · exact ((G1.out.at H2.out).kept HM.out.2.2.1 ((G1.out.at H2.out).not_row (HD.out.below G1.out.below).ot (by decide))).far (by omega) _
              · exact ((G1.out.at H3.out).kept HM.out.2.2.1 ((G1.out.at H3.out).not_row (HD.out.below G1.out.below).ot (by decide))).far (by omega) _
              · exact ((KeepsOthers.of_grownBy G1.out.grownBy (fun j o e => by cases e)).trans ((keeps_row (HD.out.below G1.out.below).ot HM.out.2.2.1).trans (KeepsOthers.setCell _ ⟨w2.heap.size, 2, none⟩ _))).same D _ HK.out rfl
            case measure => simp [intOf]; omega
      · have hd0 : decide ((k : Int) < (L2 : Int)) = false := by simp; omega
        have htk : now.take k = now := List.take_of_length_le (by have := HL2.out; omega)
        rw [htk] at HD hD
        obtain ⟨c0, c1, c2⟩ := hD.ch.three
        obtain ⟨r0, r1, r2⟩ := hi3.three
        have f0 := hi3.frozen 0
        have f1 := hi3.frozen 1
        have f2 := hi3.frozen 2
        obtain ⟨aog, cg, rfl⟩ := own_form hD.og
        obtain ⟨aof, cf, rfl⟩ := own_form hD.of
        obtain ⟨aot, ct, rfl⟩ := own_form hD.ot
        clear hD hi2 hi3 hK htk hlf hlt2
        gi_wp2
        have hK' := (((KeepsOthers.setCell wr ⟨w.heap.size + 1, 0, none⟩ (.slice aog lg.length cg)).trans (KeepsOthers.setCell _ ⟨w.heap.size + 1, 1, none⟩ (.slice aof (freshL was now).length cf))).trans (KeepsOthers.setCell _ ⟨w.heap.size + 1, 2, none⟩ (.slice aot (turnedL was now).length ct))).same D _ HK.out rfl
        refine ⟨by simp, .inl ⟨_, _, rfl, run_takeDeferred hK', ?_⟩⟩
        have hA := H3.out.put3 (.slice aog lg.length cg) (.slice aof (freshL was now).length cf) (.slice aot (turnedL was now).length ct)
        have hA2 := hA.kept (grownBy_putObj' _ D (.deferred none)) (fun e => by
          injection e with e
          rw [← e, show (World.setCell _ _ _).heap[w.heap.size + 1]? = _ from hA] at hK'
          cases hK')
        have ng := H3.out.not_row HD.out.og (by decide)
        have nf := H3.out.not_row HD.out.of (by decide)
        have nt := H3.out.not_row HD.out.ot (by decide)
        have og := ownsRow_putObj (own_set (j := 2) (own_set (j := 1) (own_set (j := 0) HD.out.og ng (.slice aog lg.length cg)) ng (.slice aof (freshL was now).length cf)) ng (.slice aot (turnedL was now).length ct)) (.deferred none) hK' rfl
        have of_ := ownsRow_putObj (own_set (j := 2) (own_set (j := 1) (own_set (j := 0) HD.out.of nf (.slice aog lg.length cg)) nf (.slice aof (freshL was now).length cf)) nf (.slice aot (turnedL was now).length ct)) (.deferred none) hK' rfl
        have ot := ownsRow_putObj (own_set (j := 2) (own_set (j := 1) (own_set (j := 0) HD.out.ot nt (.slice aog lg.length cg)) nt (.slice aof (freshL was now).length cf)) nt (.slice aot (turnedL was now).length ct)) (.deferred none) hK' rfl
        refine ⟨_, results_diff rfl _ _ (w.heap.size + 1) rfl _ _ _ hA2, _, _, _, rfl, ?_, owns_sl (enc := ecs) (k := 9) (fun _ => rfl) of_, owns_sl (enc := ecs) (k := 9) (fun _ => rfl) ot, ?_⟩
        · rw [HLG.out]
          exact owns_sl (enc := kcs) (k := 4) (fun _ => rfl) og
        · exact (bset3 HD.out.old (c := w.heap.size + 1) (by omega) _ _ _).trans (belowK_b (w := w) (Nat.le_refl _) _ D _ _ (by omega) hK' rfl rfl)
  case stop =>
    rintro D c pre W hD hpre h hK
    exact h.elim

end Go.Proofs.Ytfkbkfaiplhehaa.Ev
