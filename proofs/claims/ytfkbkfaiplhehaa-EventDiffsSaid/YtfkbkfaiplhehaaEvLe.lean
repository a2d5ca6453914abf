/- EventDiffs, walked: the difference makes one of the other (layer 11, event). -/
import Derived.Test.YtfkbkfaiplhehaaEvAw
import Derived.Test.YtfkbkfaiplhehaaEvAq
import Derived.Test.YtfkbkfaiplhehaaEvAr
import Derived.Test.YtfkbkfaiplhehaaEvRd
namespace Go.Proofs.Ytfkbkfaiplhehaa.Ev
open Go.RowKit
set_option linter.unusedVariables false

theorem all_filter {l : List Ev} (q : Ev → Bool) (h : l.all evB = true) : (l.filter q).all evB = true := by
  rw [List.all_eq_true] at h ⊢
  exact fun x hx => h x (List.mem_filter.1 hx).1
theorem up_filter {l : List Ev} (q : Ev → Bool) (h : up (keys l)) : up (keys (l.filter q)) :=
  List.Pairwise.sublist (List.Sublist.map Ev.key List.filter_sublist) h
theorem ord_filter {l : List Ev} (q : Ev → Bool) (h : ordB l = true) : ordB (l.filter q) = true := by
  obtain ⟨h1, h2, h3⟩ := ord_parts h
  unfold ordB
  have h4 : (l.filter q).length ≤ l.length := List.length_filter_le _ _
  simp only [all_filter q h1, up_filter q h2, Bool.true_and, Bool.and_true, decide_true, decide_eq_true_eq]
  omega
theorem nodup_of_map {l : List Ev} (h : (keys l).Nodup) : l.Nodup := by
  unfold keys List.Nodup at *
  rw [List.pairwise_map] at h
  exact h.imp (fun hab e => hab (by rw [e]))
/-- the difference makes one list of the other. -/
theorem diff_apply {was now : List Ev} (hw : ordB was = true) (hn : ordB now = true) : applyR was (goneL was now) (freshL was now) (turnedL was now) = (now, 0) := by
  obtain ⟨a1, u1, l1⟩ := ord_parts hw
  obtain ⟨a2, u2, l2⟩ := ord_parts hn
  have nd1 := up_nodup u1
  have nd2 := up_nodup u2
  have hr : risB (goneL was now) = true := by
    unfold risB goneL
    simp only [Bool.and_eq_true, decide_eq_true_eq]
    refine ⟨?_, List.Pairwise.sublist List.filter_sublist u1⟩
    rw [List.all_eq_true]
    intro q hq
    exact (List.all_eq_true.1 (all_keys a1)) q (List.mem_filter.1 hq).1
  have hord : (ordB was && risB (goneL was now) && ordB (freshL was now) && ordB (turnedL was now)) = true := by
    rw [hw, hr, show ordB (freshL was now) = true from ord_filter _ hn, show ordB (turnedL was now) = true from ord_filter _ hn]
    rfl
  have hg : ∀ q ∈ goneL was now, getK was q ≠ none := by
    intro q hq
    rw [ne_eq, getK_none]
    exact fun h => h (List.mem_filter.1 hq).1
  have ht : ∀ x ∈ turnedL was now, getK was x.key ≠ none := by
    intro x hx
    have := (List.mem_filter.1 hx).2
    simp only [Bool.and_eq_true] at this
    intro e
    rw [e] at this
    simp at this
  have hf : ∀ x ∈ freshL was now, getK was x.key = none := by
    intro x hx
    have := (List.mem_filter.1 hx).2
    simpa using this
  rw [apply_last hord hg ht hf]
  have hmu : up (keys (midL was (goneL was now) (turnedL was now))) := by
    rw [mid_keys]
    exact List.Pairwise.sublist List.filter_sublist u1
  -- what becomes of an event of the first list under whose key the second one has another
  have key : ∀ x ∈ was, ∀ z ∈ now, z.key = x.key → midF (goneL was now) (turnedL was now) x = some z := by
    intro x hx z hz hk
    have h1 : getK now x.key = some z := by rw [← hk]; exact getK_mem nd2 hz
    have h2 : x.key ∉ goneL was now := by
      intro h
      have := (List.mem_filter.1 h).2
      rw [h1] at this
      simp at this
    have h3 : getK was z.key = some x := by rw [hk]; exact getK_mem nd1 hx
    unfold midF
    rw [if_neg h2]
    congr 1
    cases hT : getK (turnedL was now) x.key with
    | none =>
      show x = z
      refine Decidable.byContradiction fun hne => ?_
      have hz2 : z ∈ turnedL was now := by
        refine List.mem_filter.2 ⟨hz, ?_⟩
        rw [h3]
        simp
        exact hne
      rw [getK_none] at hT
      exact hT (by rw [← hk]; exact List.mem_map_of_mem hz2)
    | some y =>
      show y = z
      obtain ⟨hy, hyk⟩ := getK_some hT
      exact nodup_key nd2 (List.mem_filter.1 hy).1 hz (by rw [hyk, hk])
  have hmem : ∀ y, y ∈ midL was (goneL was now) (turnedL was now) ++ freshL was now ↔ y ∈ now := by
    intro y
    rw [List.mem_append]
    constructor
    · rintro (h | h)
      · obtain ⟨x, hx, e⟩ := List.mem_filterMap.1 h
        cases hN : getK now x.key with
        | none =>
          have : x.key ∈ goneL was now := List.mem_filter.2 ⟨List.mem_map_of_mem hx, by rw [hN]; rfl⟩
          unfold midF at e
          rw [if_pos this] at e
          cases e
        | some z =>
          obtain ⟨hz, hzk⟩ := getK_some hN
          rw [key x hx z hz hzk] at e
          injection e with e
          subst e
          exact hz
      · exact (List.mem_filter.1 h).1
    · intro hy
      cases hW : getK was y.key with
      | none => exact .inr (List.mem_filter.2 ⟨hy, by rw [hW]; rfl⟩)
      | some x =>
        obtain ⟨hx, hxk⟩ := getK_some hW
        exact .inl (List.mem_filterMap.2 ⟨x, hx, key x hx y hy hxk.symm⟩)
  have hndk : (keys (midL was (goneL was now) (turnedL was now) ++ freshL was now)).Nodup := by
    rw [keys, List.map_append, List.nodup_append]
    refine ⟨up_nodup hmu, up_nodup (up_filter _ u2), ?_⟩
    intro a ha b hb e
    subst e
    have ha' : a ∈ keys (midL was (goneL was now) (turnedL was now)) := ha
    rw [mid_keys] at ha'
    obtain ⟨y, hy, rfl⟩ := List.mem_map.1 hb
    exact (getK_none.1 (hf y hy)) (List.mem_filter.1 ha').1
  have hnd : (midL was (goneL was now) (turnedL was now) ++ freshL was now).Nodup := nodup_of_map hndk
  have hndn : now.Nodup := nodup_of_map nd2
  have hp : (midL was (goneL was now) (turnedL was now) ++ freshL was now).Perm now := (List.perm_ext_iff_of_nodup hnd hndn).2 hmem
  have hfold : (freshL was now).foldl (fun o x => putL x o) (midL was (goneL was now) (turnedL was now)) = now := by
    refine wk_eq ?_ (foldl_put_wk _ _ (up_wk hmu)) u2
    exact ((foldl_put_perm _ _).trans List.perm_append_comm).trans hp
  rw [hfold, if_neg (by omega)]

set_option maxRecDepth 100000 in
set_option maxHeartbeats 4000000 in
theorem diffs_w (u v : Value) (was now : List Ev) (w : World) (hu : Evs w u was) (hv : Evs w v now) :
    Calls Try.prog 4 #[u, v] w fun e w' => e = .returned (.bool true) ∧ Below w.heap.size w w' := by
  have HW := hid (awake_c w)
  have HU := hid hu
  have HV := hid hv
  have HO1 := hid (fun W (k : Below w.heap.size w W) => rordered_c u was W (hu.below k))
  have HO2 := hid (fun W (k : Below w.heap.size w W) => rordered_c v now W (hv.below k))
  obtain ⟨aou, Lu, capu, rfl, hLu, _, _, _⟩ := hu
  obtain ⟨aov, Lv, capv, rfl, hLv, _, _, _⟩ := hv
  clear hLu hLv
  by_cases h1 : 100 < Lu
  · have d1 : decide ((100 : Int) < (Lu : Int)) = true := by simp; omega
    have d2 : (100 : Int) < (Lu : Int) := by omega
    go_enter Try.func4, Try.ntmps4
    go_wp2_with (go_at_call 9; ((with_reducible refine HW.out.mono ?_); rintro e w1 ⟨rfl, g1⟩))
    go_ret
    exact ⟨rfl, g1⟩
  have d1 : decide ((100 : Int) < (Lu : Int)) = false := by simp; omega
  have d2 : ¬ (100 : Int) < (Lu : Int) := by omega
  by_cases h2 : 100 < Lv
  · have d3 : decide ((100 : Int) < (Lv : Int)) = true := by simp; omega
    have d4 : (100 : Int) < (Lv : Int) := by omega
    go_enter Try.func4, Try.ntmps4
    go_wp2_with (go_at_call 9; ((with_reducible refine HW.out.mono ?_); rintro e w1 ⟨rfl, g1⟩))
    go_ret
    exact ⟨rfl, g1⟩
  have d3 : decide ((100 : Int) < (Lv : Int)) = false := by simp; omega
  have d4 : ¬ (100 : Int) < (Lv : Int) := by omega
  clear h1 h2
  cases o1 : ordB was with
  | false =>
    have HD := hid (fun W (k : Below w.heap.size w W) => diff_no _ _ was now W (HU.out.below k) (HV.out.below k) (by rw [o1]; rfl))
    rw [o1] at HO1
    clear o1
    go_enter Try.func4, Try.ntmps4
    go_wp2_with (first
      | (go_at_call 9; ((with_reducible refine HW.out.mono ?_); rintro e w1 ⟨rfl, g1⟩; have G1 := hid g1; clear g1))
      | (go_at_call 19; ((with_reducible refine (HD.out _ G1.out).mono ?_); rintro e w2 ⟨rfl, g2⟩; have G2 := hid (bal (bt G1.out g2) (.cells #[.slice none 0 0, .slice none 0 0, .slice none 0 0] 38)); have HC := hid (At.new w2 #[.slice none 0 0, .slice none 0 0, .slice none 0 0] 38)))
      | (go_at_call 17; ((with_reducible refine (HO1.out _ G2.out).mono ?_); rintro e w3 ⟨rfl, g3⟩; have G3 := hid (bt G2.out g3.below); have HC3 := hid (HC.out.below g3.below); obtain ⟨c0, c1, c2⟩ := HC3.out.three))
      | (go_at_call 17; ((with_reducible refine (HO2.out _ G3.out).mono ?_); rintro e w4 ⟨rfl, g4⟩; have G4 := hid (bt G3.out g4.below); have HC4 := hid (HC3.out.below g4.below); obtain ⟨e0, e1, e2⟩ := HC4.out.three)))
    go_ret
    exact ⟨rfl, G3.out⟩
  | true =>
    cases o2 : ordB now with
    | false =>
      have HD := hid (fun W (k : Below w.heap.size w W) => diff_no _ _ was now W (HU.out.below k) (HV.out.below k) (by rw [o2, o1]; rfl))
      rw [o1] at HO1
      rw [o2] at HO2
      clear o1 o2
      go_enter Try.func4, Try.ntmps4
      go_wp2_with (first
        | (go_at_call 9; ((with_reducible refine HW.out.mono ?_); rintro e w1 ⟨rfl, g1⟩; have G1 := hid g1; clear g1))
        | (go_at_call 19; ((with_reducible refine (HD.out _ G1.out).mono ?_); rintro e w2 ⟨rfl, g2⟩; have G2 := hid (bal (bt G1.out g2) (.cells #[.slice none 0 0, .slice none 0 0, .slice none 0 0] 38)); have HC := hid (At.new w2 #[.slice none 0 0, .slice none 0 0, .slice none 0 0] 38)))
        | (go_at_call 17; ((with_reducible refine (HO1.out _ G2.out).mono ?_); rintro e w3 ⟨rfl, g3⟩; have G3 := hid (bt G2.out g3.below); have HC3 := hid (HC.out.below g3.below); obtain ⟨c0, c1, c2⟩ := HC3.out.three))
        | (go_at_call 17; ((with_reducible refine (HO2.out _ G3.out).mono ?_); rintro e w4 ⟨rfl, g4⟩; have G4 := hid (bt G3.out g4.below); have HC4 := hid (HC3.out.below g4.below); obtain ⟨e0, e1, e2⟩ := HC4.out.three)))
      go_ret
      exact ⟨rfl, G4.out⟩
    | true =>
      have p1 := ord_parts o1
      have p2 := ord_parts o2
      have HD := hid (fun W (k : Below w.heap.size w W) => diff_yes _ _ was now W (HU.out.below k) (HV.out.below k) o1 o2)
      have HR := hid (fun W (k : Below w.heap.size w W) => rdiff_c _ _ was now W (HU.out.below k) (HV.out.below k) p1.2.2 p2.2.2)
      have hgl : (goneL was now).length ≤ 4096 := filter_len _ _ (by rw [List.length_map]; omega)
      have HA := hid (fun (g f t : Value) W (k : Below w.heap.size w W) (hg : Kys W g (goneL was now)) (hf : Evs W f (freshL was now)) (ht : Evs W t (turnedL was now)) => apply_c _ g f t was (goneL was now) (freshL was now) (turnedL was now) W (HU.out.below k) hg hf ht hgl)
      rw [diff_apply o1 o2] at HA
      dsimp only at HA
      rw [o1] at HO1
      rw [o2] at HO2
      generalize goneL was now = lg at HD HR HA
      generalize freshL was now = lf at HD HR HA
      generalize turnedL was now = lt at HD HR HA
      clear o1 o2 p1 p2 hgl
      go_enter Try.func4, Try.ntmps4
      go_upto_region 6 with (first
        | (go_at_call 9; ((with_reducible refine HW.out.mono ?_); rintro e w1 ⟨rfl, g1⟩; have G1 := hid g1; clear g1))
        | (go_at_call 19; ((with_reducible refine (HD.out _ G1.out).mono ?_); rintro e w2 ⟨g, f, t, rfl, hg, hf, ht, g2⟩; have G2a := hid (bt G1.out g2); have HG2 := hid hg; have HF2 := hid hf; have HT2 := hid ht; obtain ⟨ag, ng, cg, rfl, _⟩ := hg; obtain ⟨af, nf, cf, rfl, _⟩ := hf; obtain ⟨at_, nt, ct, rfl, _⟩ := ht)))
      have G2 := hid (bal G2a.out (.cells #[.slice ag ng cg, .slice af nf cf, .slice at_ nt ct] 38))
      have HC := hid (At.new w2 #[.slice ag ng cg, .slice af nf cf, .slice at_ nt ct] 38)
      have HGk := hid (HG2.out.below (bal (br w2) (.cells #[.slice ag ng cg, .slice af nf cf, .slice at_ nt ct] 38)))
      have HFk := hid (HF2.out.below (bal (br w2) (.cells #[.slice ag ng cg, .slice af nf cf, .slice at_ nt ct] 38)))
      have HTk := hid (HT2.out.below (bal (br w2) (.cells #[.slice ag ng cg, .slice af nf cf, .slice at_ nt ct] 38)))
      obtain ⟨X, hX⟩ : ∃ X, Hid (w2.heap.size = X) := ⟨_, hid rfl⟩
      rw [hX.out] at HC ⊢
      generalize w2.alloc (.cells #[.slice ag ng cg, .slice af nf cf, .slice at_ nt ct] 38) = w3 at G2 HC HGk HFk HTk ⊢
      go_wp2_with (first
        | (go_at_call 17; ((with_reducible refine (HO1.out _ G2.out).mono ?_); rintro e w4 ⟨rfl, g4⟩; have G4 := hid (bt G2.out g4.below)))
        | (go_at_call 17; ((with_reducible refine (HO2.out _ G4.out).mono ?_); rintro e w5 ⟨rfl, g5⟩; have G5 := hid (bt G4.out g5.below)))
        | (go_at_call 20; ((with_reducible refine (HR.out _ G5.out).mono ?_); rintro e w6 ⟨g', f', t', rfl, hg6, hf6, ht6, g6⟩; have K6 := bt g4.below (bt g5.below g6); have G6 := hid (bt G5.out g6); have HG6 := hid hg6; have HF6 := hid hf6; have HT6 := hid ht6; have HC6 := hid (HC.out.below K6); have HGk6 := hid (HGk.out.below K6); have HFk6 := hid (HFk.out.below K6); have HTk6 := hid (HTk.out.below K6); obtain ⟨c0, c1, c2⟩ := HC6.out.three; clear hg6 hf6 ht6))
        | (go_at_call 21; ((refine (HA.out (.slice ag ng cg) (.slice af nf cf) (.slice at_ nt ct) _ G6.out HGk6.out HFk6.out HTk6.out).mono ?_); rintro e w7 ⟨v7, rfl, hv7, g7⟩; have G7 := hid (bt G6.out g7); have HV7 := hid hv7; have HC7 := hid (HC6.out.below g7); obtain ⟨e0, e1, e2⟩ := HC7.out.three; clear hv7))
        | (go_at_call 22; ((with_reducible refine (rkeys_c (.slice ag ng cg) g' lg lg _ (HGk6.out.below g7) (HG6.out.below g7)).mono ?_); rintro e w8 ⟨rfl, g8⟩; rw [decide_eq_true rfl]; have G8 := hid (bt G7.out g8.below); have K8 := bt g7 g8.below; have HC8 := hid (HC7.out.below g8.below); obtain ⟨f0, f1, f2⟩ := HC8.out.three))
        | (go_at_call 15; ((with_reducible refine (rsame_c (.slice af nf cf) f' lf lf _ (HFk6.out.below K8) (HF6.out.below K8)).mono ?_); rintro e w9 ⟨rfl, g9⟩; rw [decide_eq_true rfl]; have G9 := hid (bt G8.out g9.below); have K9 := bt K8 g9.below; have HC9 := hid (HC8.out.below g9.below); obtain ⟨h0, h1, h2⟩ := HC9.out.three))
        | (go_at_call 15; ((with_reducible refine (rsame_c (.slice at_ nt ct) t' lt lt _ (HTk6.out.below K9) (HT6.out.below K9)).mono ?_); rintro e w10 ⟨rfl, g10⟩; rw [decide_eq_true rfl]; have G10 := hid (bt G9.out g10.below)))
        | (go_at_call 15; ((with_reducible refine (rsame_c v7 _ now now _ (HV7.out.below (bt g8.below (bt g9.below g10.below))) (HV.out.below G10.out)).mono ?_); rintro e w11 ⟨rfl, g11⟩; rw [decide_eq_true rfl]; have G11 := hid (bt G10.out g11.below))))
      go_ret
      exact ⟨rfl, G11.out⟩

end Go.Proofs.Ytfkbkfaiplhehaa.Ev
