/- What the document's Apply returns (layer 11, event). -/
import Derived.Test.YtfkbkfaiplhehaaEvAp
import Derived.Test.YtfkbkfaiplhehaaEvRs
namespace Go.Proofs.Ytfkbkfaiplhehaa.Ev
open Go.RowKit
set_option linter.unusedVariables false

theorem cnt_all {l : List Ev} {ks : List Ky} (h : ∀ q ∈ ks, getK l q ≠ none) : cntK l ks = ks.length := by
  unfold cntK
  rw [List.countP_eq_length]
  intro q hq
  have := h q hq
  rw [ne_eq, getK_none] at this
  simpa using this
theorem cnt_some {l : List Ev} {ks : List Ky} {q : Ky} (hq : q ∈ ks) (h : getK l q = none) : cntK l ks < ks.length := by
  unfold cntK
  refine Nat.lt_of_le_of_ne List.countP_le_length (fun e => ?_)
  rw [List.countP_eq_length] at e
  have := e q hq
  rw [getK_none] at h
  simp only [decide_eq_true_eq] at this
  exact h this
theorem cnt_zero {l : List Ev} {ks : List Ky} (h : ∀ q ∈ ks, getK l q = none) : cntK l ks = 0 := by
  unfold cntK
  rw [List.countP_eq_zero]
  intro q hq
  have := h q hq
  rw [getK_none] at this
  simpa using this
theorem cnt_pos {l : List Ev} {ks : List Ky} {q : Ky} (hq : q ∈ ks) (h : getK l q ≠ none) : 0 < cntK l ks := by
  unfold cntK
  rw [List.countP_pos_iff]
  refine ⟨q, hq, ?_⟩
  rw [ne_eq, getK_none] at h
  simpa using h
theorem apply_one {was : List Ev} {gone : List Ky} {fresh turned : List Ev} (h : (ordB was && risB gone && ordB fresh && ordB turned) = false) : applyR was gone fresh turned = ([], 1) := by
  unfold applyR suitE
  rw [h]
  simp
theorem apply_six {was : List Ev} {gone : List Ky} {fresh turned : List Ev} (h : (ordB was && risB gone && ordB fresh && ordB turned) = true) (h2 : (∃ q ∈ gone, getK was q = none) ∨ ∃ x ∈ turned, getK was x.key = none) : applyR was gone fresh turned = ([], 6) := by
  have h3 : cntK was gone < gone.length ∨ cntK was (keys turned) < turned.length := by
    rcases h2 with ⟨q, hq, h2⟩ | ⟨x, hx, h2⟩
    · exact .inl (cnt_some hq h2)
    · refine .inr ?_
      have := cnt_some (l := was) (ks := keys turned) (List.mem_map_of_mem hx) h2
      simpa using this
  unfold applyR suitE
  rw [h, if_pos rfl, if_pos h3]
  simp
theorem apply_seven {was : List Ev} {gone : List Ky} {fresh turned : List Ev} (h : (ordB was && risB gone && ordB fresh && ordB turned) = true) (hg : ∀ q ∈ gone, getK was q ≠ none) (ht : ∀ x ∈ turned, getK was x.key ≠ none) {x : Ev} (hx : x ∈ fresh) (h2 : getK was x.key ≠ none) : applyR was gone fresh turned = ([], 7) := by
  have h3 : ¬ (cntK was gone < gone.length ∨ cntK was (keys turned) < turned.length) := by
    rw [cnt_all hg, cnt_all (ks := keys turned) (by intro q hq; obtain ⟨y, hy, rfl⟩ := List.mem_map.1 hq; exact ht y hy)]
    simp
  have h4 : 0 < cntK was (keys fresh) := cnt_pos (List.mem_map_of_mem hx) h2
  unfold applyR suitE
  rw [h, if_pos rfl, if_neg h3, if_pos h4]
  simp
theorem put_assoc (l o : List Ev) : (l.foldl (fun o x => putL x o) o).length = l.length + o.length := by
  simpa using (foldl_put_perm l o).length_eq
theorem mid_keys (gone : List Ky) (turned : List Ev) : ∀ was : List Ev, keys (midL was gone turned) = (keys was).filter fun q => decide (q ∉ gone)
  | [] => rfl
  | x :: was => by
    have ih := mid_keys gone turned was
    unfold midL at ih ⊢
    rw [show keys (x :: was) = x.key :: keys was from rfl, List.filter_cons]
    by_cases h : x.key ∈ gone
    · rw [List.filterMap_cons_none (by simp [midF, h])]
      simpa [h] using ih
    · have hm : midF gone turned x = some ((getK turned x.key).getD x) := by simp [midF, h]
      rw [List.filterMap_cons_some hm]
      have hk : ((getK turned x.key).getD x).key = x.key := by
        cases hK : getK turned x.key with
        | none => rfl
        | some y => exact (getK_some hK).2
      show ((getK turned x.key).getD x).key :: keys (List.filterMap (midF gone turned) was) = _
      rw [hk, ih]
      simp [h]
theorem mid_right {was : List Ev} {gone : List Ky} {turned : List Ev} (h1 : was.all evB = true) (h2 : turned.all evB = true) : (midL was gone turned).all evB = true := by
  rw [List.all_eq_true] at h1 h2 ⊢
  intro y hy
  obtain ⟨x, hx, e⟩ := List.mem_filterMap.1 hy
  unfold midF at e
  split at e
  · cases e
  · injection e with e
    subst e
    cases hK : getK turned x.key with
    | none => exact h1 x hx
    | some y => exact h2 y (getK_some hK).1
theorem sort_up {l : List Ev} (h : up (keys l)) : sortL l = l := wk_eq (sort_perm l) (sort_wk l) h
theorem apply_last {was : List Ev} {gone : List Ky} {fresh turned : List Ev} (h : (ordB was && risB gone && ordB fresh && ordB turned) = true) (hg : ∀ q ∈ gone, getK was q ≠ none) (ht : ∀ x ∈ turned, getK was x.key ≠ none) (hf : ∀ x ∈ fresh, getK was x.key = none) :
    applyR was gone fresh turned = if 64 < (fresh.foldl (fun o x => putL x o) (midL was gone turned)).length then ([], 5) else (fresh.foldl (fun o x => putL x o) (midL was gone turned), 0) := by
  have h3 : ¬ (cntK was gone < gone.length ∨ cntK was (keys turned) < turned.length) := by
    rw [cnt_all hg, cnt_all (ks := keys turned) (by intro q hq; obtain ⟨y, hy, rfl⟩ := List.mem_map.1 hq; exact ht y hy)]
    simp
  have h4 : ¬ 0 < cntK was (keys fresh) := by
    rw [cnt_zero (ks := keys fresh) (by intro q hq; obtain ⟨y, hy, rfl⟩ := List.mem_map.1 hq; exact hf y hy)]
    omega
  have hS : suitE was gone fresh turned = 0 := by
    unfold suitE
    rw [h, if_pos rfl, if_neg h3, if_neg h4]
  simp only [Bool.and_eq_true] at h
  obtain ⟨⟨⟨o1, o2⟩, o3⟩, o4⟩ := h
  obtain ⟨a1, u1, l1⟩ := ord_parts o1
  obtain ⟨a3, u3, l3⟩ := ord_parts o3
  obtain ⟨a4, u4, l4⟩ := ord_parts o4
  have hmu : up (keys (midL was gone turned)) := by
    rw [mid_keys]
    exact List.Pairwise.sublist List.filter_sublist u1
  have hall : (midL was gone turned ++ fresh).all evB = true := by
    rw [List.all_append, mid_right a1 a4, a3]; rfl
  have hsf : sortL (midL was gone turned ++ fresh) = fresh.foldl (fun o x => putL x o) (midL was gone turned) := by
    unfold sortL
    rw [List.foldl_append]
    have := sort_up hmu
    unfold sortL at this
    rw [this]
  have hnd : (keys (midL was gone turned ++ fresh)).Nodup := by
    rw [keys, List.map_append, List.nodup_append]
    refine ⟨up_nodup hmu, up_nodup u3, ?_⟩
    intro a ha b hb e
    subst e
    have ha' : a ∈ keys (midL was gone turned) := ha
    rw [mid_keys] at ha'
    have h5 := (List.mem_filter.1 ha').1
    obtain ⟨y, hy, rfl⟩ := List.mem_map.1 hb
    exact (getK_none.1 (hf y hy)) h5
  have hus : up (keys (sortL (midL was gone turned ++ fresh))) := wk_up (sort_wk _) ((((sort_perm (midL was gone turned ++ fresh)).map Ev.key).nodup_iff).2 hnd)
  unfold applyR
  rw [if_pos hS]
  unfold sortR
  rw [if_pos hall, if_pos hus, hsf, put_assoc, List.length_append, Nat.add_comm]

theorem take_mem {α : Type} {p : α → Prop} {l : List α} {k : Nat} {x : α} (hx : l[k]? = some x) (h : ∀ y ∈ l.take k, p y) (hp : p x) : ∀ y ∈ l.take (k + 1), p y := by
  intro y hy
  rw [← take_snoc hx] at hy
  rcases List.mem_append.1 hy with hy | hy
  · exact h y hy
  · simp at hy; subst hy; exact hp

set_option maxRecDepth 100000 in
set_option maxHeartbeats 10000000 in
theorem rapply_c (u g f t : Value) (was : List Ev) (gone : List Ky) (fresh turned : List Ev) (w : World) (hu : Evs w u was) (hg : Kys w g gone) (hf : Evs w f fresh) (ht : Evs w t turned) :
    Calls Try.prog 23 #[u, g, f, t] w fun e w' => ∃ v', e = .returned (.tuple #[v', .int .i64 (applyR was gone fresh turned).2]) ∧ Evs w' v' (applyR was gone fresh turned).1 ∧ Below w.heap.size w w' := by
  have HU := hid hu
  have HTt := hid ht
  have HO1 := hid (fun W (k : Below w.heap.size w W) => rordered_c u was W (hu.below k))
  have HO2 := hid (fun W (k : Below w.heap.size w W) => rrising_c g gone W (hg.below k))
  have HO3 := hid (fun W (k : Below w.heap.size w W) => rordered_c f fresh W (hf.below k))
  have HO4 := hid (fun W (k : Below w.heap.size w W) => rordered_c t turned W (ht.below k))
  obtain ⟨aog, Lg, capg, rfl, hLg, _, hmg, rg⟩ := hg
  obtain ⟨aot, Lt, capt, rfl, hLt, _, hmt, rt⟩ := ht
  obtain ⟨aof, Lf, capf, rfl, hLf, _, hmf, rf⟩ := hf
  obtain ⟨aou, Lu, capu, rfl, hLu, _, hmu, ru⟩ := hu
  have HLg := hid hLg
  have HLt := hid hLt
  have HLf := hid hLf
  have HLu := hid hLu
  have RG := hid rg
  have RT := hid rt
  have RF := hid rf
  have RU := hid ru
  clear hLg hLt hLf hLu rg rt rf ru
  cases h1 : ordB was
  case false =>
    rw [h1] at HO1
    have HE : Hid (applyR was gone fresh turned = ([], 1)) := hid (apply_one (by simp [h1]))
    clear h1
    go_enter Try.func23, Try.ntmps23
    go_wp2_with (first
      | (go_at_call 17; ((with_reducible refine (HO1.out _ (br w)).mono ?_); rintro e w1 ⟨rfl, g1⟩; have HB1 := hid g1.below))
      | (go_at_call 46; ((with_reducible refine (HO2.out _ HB1.out).mono ?_); rintro e w2 ⟨rfl, g2⟩; have HB2 := hid (bt HB1.out g2.below)))
      | (go_at_call 17; ((with_reducible refine (HO3.out _ HB2.out).mono ?_); rintro e w3 ⟨rfl, g3⟩; have HB3 := hid (bt HB2.out g3.below)))
      | (go_at_call 17; ((with_reducible refine (HO4.out _ HB3.out).mono ?_); rintro e w4 ⟨rfl, g4⟩; have HB4 := hid (bt HB3.out g4.below))))
    go_ret2
    rw [HE.out]
    exact ⟨_, rfl, Sl.nil _ _ _, HB1.out⟩
  rw [h1] at HO1
  cases h2 : risB gone
  case false =>
    rw [h2] at HO2
    have HE : Hid (applyR was gone fresh turned = ([], 1)) := hid (apply_one (by simp [h1, h2]))
    clear h1 h2
    go_enter Try.func23, Try.ntmps23
    go_wp2_with (first
      | (go_at_call 17; ((with_reducible refine (HO1.out _ (br w)).mono ?_); rintro e w1 ⟨rfl, g1⟩; have HB1 := hid g1.below))
      | (go_at_call 46; ((with_reducible refine (HO2.out _ HB1.out).mono ?_); rintro e w2 ⟨rfl, g2⟩; have HB2 := hid (bt HB1.out g2.below)))
      | (go_at_call 17; ((with_reducible refine (HO3.out _ HB2.out).mono ?_); rintro e w3 ⟨rfl, g3⟩; have HB3 := hid (bt HB2.out g3.below)))
      | (go_at_call 17; ((with_reducible refine (HO4.out _ HB3.out).mono ?_); rintro e w4 ⟨rfl, g4⟩; have HB4 := hid (bt HB3.out g4.below))))
    go_ret2
    rw [HE.out]
    exact ⟨_, rfl, Sl.nil _ _ _, HB2.out⟩
  rw [h2] at HO2
  cases h3 : ordB fresh
  case false =>
    rw [h3] at HO3
    have HE : Hid (applyR was gone fresh turned = ([], 1)) := hid (apply_one (by simp [h1, h2, h3]))
    clear h1 h2 h3
    go_enter Try.func23, Try.ntmps23
    go_wp2_with (first
      | (go_at_call 17; ((with_reducible refine (HO1.out _ (br w)).mono ?_); rintro e w1 ⟨rfl, g1⟩; have HB1 := hid g1.below))
      | (go_at_call 46; ((with_reducible refine (HO2.out _ HB1.out).mono ?_); rintro e w2 ⟨rfl, g2⟩; have HB2 := hid (bt HB1.out g2.below)))
      | (go_at_call 17; ((with_reducible refine (HO3.out _ HB2.out).mono ?_); rintro e w3 ⟨rfl, g3⟩; have HB3 := hid (bt HB2.out g3.below)))
      | (go_at_call 17; ((with_reducible refine (HO4.out _ HB3.out).mono ?_); rintro e w4 ⟨rfl, g4⟩; have HB4 := hid (bt HB3.out g4.below))))
    go_ret2
    rw [HE.out]
    exact ⟨_, rfl, Sl.nil _ _ _, HB3.out⟩
  rw [h3] at HO3
  cases h4 : ordB turned
  case false =>
    rw [h4] at HO4
    have HE : Hid (applyR was gone fresh turned = ([], 1)) := hid (apply_one (by simp [h1, h2, h3, h4]))
    clear h1 h2 h3 h4
    go_enter Try.func23, Try.ntmps23
    go_wp2_with (first
      | (go_at_call 17; ((with_reducible refine (HO1.out _ (br w)).mono ?_); rintro e w1 ⟨rfl, g1⟩; have HB1 := hid g1.below))
      | (go_at_call 46; ((with_reducible refine (HO2.out _ HB1.out).mono ?_); rintro e w2 ⟨rfl, g2⟩; have HB2 := hid (bt HB1.out g2.below)))
      | (go_at_call 17; ((with_reducible refine (HO3.out _ HB2.out).mono ?_); rintro e w3 ⟨rfl, g3⟩; have HB3 := hid (bt HB2.out g3.below)))
      | (go_at_call 17; ((with_reducible refine (HO4.out _ HB3.out).mono ?_); rintro e w4 ⟨rfl, g4⟩; have HB4 := hid (bt HB3.out g4.below))))
    go_ret2
    rw [HE.out]
    exact ⟨_, rfl, Sl.nil _ _ _, HB4.out⟩
  rw [h4] at HO4
  have HALL : Hid ((ordB was && risB gone && ordB fresh && ordB turned) = true) := hid (by simp [h1, h2, h3, h4])
  have hlu : Lu ≤ 64 := by have := (ord_parts h1).2.2; rw [HLu.out] at this; exact this
  have hlf : Lf ≤ 64 := by have := (ord_parts h3).2.2; rw [HLf.out] at this; exact this
  have hlt0 : Lt ≤ 64 := by have := (ord_parts h4).2.2; rw [HLt.out] at this; exact this
  clear h1 h2 h3 h4
  go_enter Try.func23, Try.ntmps23
  go_wp2_with (first
    | (go_at_call 17; ((with_reducible refine (HO1.out _ (br w)).mono ?_); rintro e w1 ⟨rfl, g1⟩; have HB1 := hid g1.below))
    | (go_at_call 46; ((with_reducible refine (HO2.out _ HB1.out).mono ?_); rintro e w2 ⟨rfl, g2⟩; have HB2 := hid (bt HB1.out g2.below)))
    | (go_at_call 17; ((with_reducible refine (HO3.out _ HB2.out).mono ?_); rintro e w3 ⟨rfl, g3⟩; have HB3 := hid (bt HB2.out g3.below)))
    | (go_at_call 17; ((with_reducible refine (HO4.out _ HB3.out).mono ?_); rintro e w4 ⟨rfl, g4⟩; have HB4 := hid (bt HB3.out g4.below))))
  go_loopw [10] (fun i wr => ∃ k : Nat, k ≤ Lg ∧ i = .int .i64 k ∧ Below w.heap.size w wr ∧ Hid (∀ q ∈ gone.take k, getK was q ≠ none)) (fun i _ => Lg - (intOf i).toNat)
  case atStart => exact ⟨0, Nat.zero_le _, rfl, HB4.out, hid (by simp)⟩
  case round =>
    obtain ⟨k, hk, rfl, hB, hq⟩ := hrel
    have HB := hid hB
    by_cases hlt : k < Lg
    · obtain ⟨x, hx⟩ := get_lt HLg.out hlt
      obtain ⟨b, o, rfl, hb, c0, c1, c2, c3⟩ := (RG.out.below hB).ky hx
      have hk1 : (k : Int) < (Lg : Int) := by omega
      have hk0 : (0 : Int) ≤ (k : Int) := by omega
      cases hE : getK was x with
      | none =>
        have HN : Hid (applyR was gone fresh turned = ([], 6)) := hid (apply_six HALL.out (.inl ⟨x, List.mem_of_getElem? hx, hE⟩))
        have HP := hid (rat_no _ was x _ (HU.out.below hB) hE)
        clear hx hE hB
        go_wp2_with (go_at_call 43; ((with_reducible refine HP.out.mono ?_); rintro e w5 ⟨rfl, g5⟩))
        go_ret2
        rw [HN.out]
        exact ⟨_, rfl, Sl.nil _ _ _, bt HB.out g5.below⟩
      | some y =>
        have HQ := hid (take_mem hx hq.out (by rw [hE]; simp))
        have HP := hid (rat_yes _ was x y _ (HU.out.below hB) hE)
        clear hx hE hB
        go_wp2_with (go_at_call 43; ((with_reducible refine HP.out.mono ?_); rintro e w5 ⟨i, rfl, hi, g5⟩; have hi0 : ¬ ((i : Int) < 0) := (by omega); have hi1 : decide ((i : Int) < 0) = false := decide_eq_false hi0; clear hi))
        go_roundw
        case rel => exact ⟨k + 1, by omega, by go_num, bt HB.out g5.below, HQ⟩
        case measure => simp [intOf]; omega
    · have htk : gone.take k = gone := List.take_of_length_le (by have := HLg.out; omega)
      have hd0 : decide ((k : Int) < (Lg : Int)) = false := by simp; omega
      rw [htk] at hq
      have HQ := hq
      clear htk hB hq
      go_wp2_with fail
      go_loopw [11] (fun i wr => ∃ k : Nat, k ≤ Lt ∧ i = .int .i64 k ∧ Below w.heap.size w wr ∧ Hid (∀ x ∈ turned.take k, getK was x.key ≠ none)) (fun i _ => Lt - (intOf i).toNat)
      case atStart => exact ⟨0, Nat.zero_le _, rfl, HB.out, hid (by simp)⟩
      case round =>
        obtain ⟨k2, hk2, rfl, hB2, ht2⟩ := hrel
        have HB2 := hid hB2
        by_cases hlt2 : k2 < Lt
        · obtain ⟨x, hx⟩ := get_lt HLt.out hlt2
          obtain ⟨b, o, rfl, hb, c0, c1, c2, c3, c4, c5, c6, c7, c8⟩ := (RT.out.below hB2).ev hx
          have hk1 : (k2 : Int) < (Lt : Int) := by omega
          have hk0 : (0 : Int) ≤ (k2 : Int) := by omega
          cases hE : getK was x.key with
          | none =>
            have HN : Hid (applyR was gone fresh turned = ([], 6)) := hid (apply_six HALL.out (.inr ⟨x, List.mem_of_getElem? hx, hE⟩))
            have HP := hid (rat_no _ was x.key _ (HU.out.below hB2) hE)
            clear hx hE hB2
            go_wp2_with (go_at_call 43; ((with_reducible refine HP.out.mono ?_); rintro e w5 ⟨rfl, g5⟩))
            go_ret2
            rw [HN.out]
            exact ⟨_, rfl, Sl.nil _ _ _, bt HB2.out g5.below⟩
          | some y =>
            have HQ2 := hid (take_mem hx ht2.out (p := fun z : Ev => getK was z.key ≠ none) (by rw [hE]; simp))
            have HP := hid (rat_yes _ was x.key y _ (HU.out.below hB2) hE)
            clear hx hE hB2
            go_wp2_with (go_at_call 43; ((with_reducible refine HP.out.mono ?_); rintro e w5 ⟨i, rfl, hi, g5⟩; have hi0 : ¬ ((i : Int) < 0) := (by omega); have hi1 : decide ((i : Int) < 0) = false := decide_eq_false hi0; clear hi))
            go_roundw
            case rel => exact ⟨k2 + 1, by omega, by go_num, bt HB2.out g5.below, HQ2⟩
            case measure => simp [intOf]; omega
        · have htk2 : turned.take k2 = turned := List.take_of_length_le (by have := HLt.out; omega)
          have hd2 : decide ((k2 : Int) < (Lt : Int)) = false := by simp; omega
          rw [htk2] at ht2
          have HQ2 := ht2
          have HM0 := hid (bal HB2.out (.cells #[] 31))
          have HO0 : Hid ((wr.alloc (.cells #[] 31)).ownsRow w.heap.size 31 9 (.slice (some ⟨wr.heap.size, 0, none⟩) 0 0) 0 []) := hid (owns_base (World.ownsRow_made (e := 31) (size := 9) wr #[] 0 (Nat.le_refl _) (Nat.zero_le _) (by simp)) hB2.size)
          clear htk2 hB2 ht2
          go_wp2_with fail
          go_loopw [12, 13] (fun nv i wr3 => ∃ (k : Nat) (v : Value), k ≤ Lu ∧ i = .int .i64 k ∧ v = nv ∧ wr3.ownsRow w.heap.size 31 9 v (midL (was.take k) gone turned).length (flat ecs (midL (was.take k) gone turned)) ∧ Below w.heap.size w wr3) (fun _ i _ => Lu - (intOf i).toNat)
          case atStart => exact ⟨0, _, Nat.zero_le _, rfl, rfl, HO0.out, HM0.out⟩
          case round =>
            obtain ⟨k3, v, hk3, rfl, rfl, ho, hB3⟩ := hrel
            have HO := hid ho
            have HB3 := hid hB3
            have hml : (midL (was.take k3) gone turned).length ≤ 4096 := by
              have h1 := mid_len (was.take k3) gone turned
              rw [List.length_take] at h1
              have := HLu.out
              omega
            by_cases hlt3 : k3 < Lu
            · obtain ⟨x, hx⟩ := get_lt HLu.out hlt3
              have HX := hid hx
              have hk1 : (k3 : Int) < (Lu : Int) := by omega
              have hk0 : (0 : Int) ≤ (k3 : Int) := by omega
              obtain ⟨bu, ou, rfl, _⟩ := (RU.out.below hB3).ev hx
              have HMs := hid (mid_step (gone := gone) (turned := turned) hx)
              generalize midL (was.take k3) gone turned = m at HO ho HMs hml
              clear hx ho hB3
              go_wp2_with fail
              go_loopw [14, 15] (fun aw i wr4 => ∃ (j d : Nat), j ≤ Lg ∧ i = .int .i64 j ∧ aw = .bool (decide (x.key ∈ gone.take j)) ∧ wr4 = wr.drewN d) (fun _ i _ => Lg - (intOf i).toNat)
              case atStart => exact ⟨0, 0, Nat.zero_le _, rfl, by simp, rfl⟩
              case round =>
                obtain ⟨j, d, hj, rfl, rfl, rfl⟩ := hrel
                have hBd := HB3.out.trans (bdn (br wr) d |>.mono HB3.out.size)
                by_cases hltj : j < Lg
                · obtain ⟨q, hqj⟩ := get_lt HLg.out hltj
                  obtain ⟨bg, og, rfl, _, q0, q1, q2, q3⟩ := (RG.out.below HB3.out).ky hqj
                  obtain ⟨_, c0, c1, c2, c3, c4, c5, c6, c7, c8⟩ := (RU.out.below HB3.out).ev2 HX.out
                  have hj1 : (j : Int) < (Lg : Int) := by omega
                  have hj0 : (0 : Int) ≤ (j : Int) := by omega
                  have hT : gone.take (j + 1) = gone.take j ++ [q] := (take_snoc hqj).symm
                  have hgK := guardK
                  have he := eqK q x.key
                  clear hqj hBd c4 c5 c6 c7 c8
                  by_cases hin : x.key ∈ gone.take j
                  · have hd : decide (x.key ∈ gone.take j) = true := by simpa using hin
                    have HN : Hid (decide (x.key ∈ gone.take (j + 1)) = true) := hid (by rw [hT]; simp [hin])
                    rw [hd]
                    clear hin hd hT he
                    go_wp2_with fail
                    go_quiet (fail)
                    go_wp2_with fail
                    go_roundw
                    case rel => exact ⟨j + 1, _, by omega, by go_num, by rw [HN.out], rfl⟩
                    case measure => simp [intOf]; omega
                  · have hd : decide (x.key ∈ gone.take j) = false := by simpa using hin
                    rw [hd]
                    by_cases hqx : q = x.key
                    · have HN : Hid (decide (x.key ∈ gone.take (j + 1)) = true) := hid (by rw [hT]; simp [hqx])
                      rw [decide_eq_true hqx] at he
                      clear hin hd hT hqx
                      go_wp2_with fail
                      go_quiet (fail)
                      go_wp2_with fail
                      go_roundw
                      case rel => exact ⟨j + 1, _, by omega, by go_num, by rw [HN.out], rfl⟩
                      case measure => simp [intOf]; omega
                    · have HN : Hid (decide (x.key ∈ gone.take (j + 1)) = false) := hid (by rw [hT]; simp [hin, Ne.symm hqx])
                      rw [decide_eq_false hqx] at he
                      clear hin hd hT hqx
                      go_wp2_with fail
                      go_quiet (fail)
                      go_wp2_with fail
                      go_roundw
                      case rel => exact ⟨j + 1, _, by omega, by go_num, by rw [HN.out], rfl⟩
                      case measure => simp [intOf]; omega
                · have htj : gone.take j = gone := List.take_of_length_le (by have := HLg.out; omega)
                  have hdj : decide ((j : Int) < (Lg : Int)) = false := by simp; omega
                  have HB4 := hid hBd
                  have HO4 := hid (own_gr HO.out (gdn (gr wr) d))
                  obtain ⟨_, c0, c1, c2, c3, c4, c5, c6, c7, c8⟩ := (RU.out.below HB3.out).ev2 HX.out
                  rw [htj]
                  clear htj hBd
                  by_cases hin : x.key ∈ gone
                  · have hd : decide (x.key ∈ gone) = true := by simpa using hin
                    have HM : Hid (midL (was.take (k3 + 1)) gone turned = m) := hid (by rw [HMs.out]; simp [midF, hin])
                    have HAt := hid (rat_c _ turned x.key _ (HTt.out.below HB4.out))
                    rw [hd]
                    clear hin hd
                    go_wp2_with (go_at_call 43; ((with_reducible refine HAt.out.mono ?_); rintro e w6 ⟨⟨r, rfl, _⟩, g6⟩))
                    go_roundw
                    case rel => exact ⟨k3 + 1, v, by omega, by go_num, rfl, by rw [HM.out]; exact own_gr HO4.out g6, bt HB4.out g6.below⟩
                    case measure => simp [intOf]; omega
                  · have hd : decide (x.key ∈ gone) = false := by simpa using hin
                    have HM : Hid (midL (was.take (k3 + 1)) gone turned = m ++ [(getK turned x.key).getD x]) := hid (by rw [HMs.out]; simp [midF, hin])
                    rw [hd]
                    clear hin hd
                    cases hK : getK turned x.key with
                    | none =>
                      have HP := hid (rat_no _ turned x.key _ (HTt.out.below HB4.out) hK)
                      rw [hK] at HM
                      simp only [Option.getD_none] at HM
                      clear hK
                      go_wp2_with (first
                        | (go_at_call 43; ((with_reducible refine HP.out.mono ?_); rintro e w6 ⟨rfl, g6⟩; have HB6 := hid (bt HB4.out g6.below); have HO6 := hid (own_gr HO4.out g6); obtain ⟨_, e0, e1, e2, e3, e4, e5, e6, e7, e8⟩ := (RU.out.below HB6.out).ev2 HX.out))
                        | (at_builtin; refine app_evm _ rfl (.tmp 111) (.tmp 116) rfl w.heap.size _ _ rfl HO6.out w HB6.out (Nat.le_refl _) x rfl hml ?_; intro v' w7 hM7; have HM7 := hid hM7; clear hM7))
                      go_roundw
                      case rel => exact ⟨k3 + 1, _, by omega, by go_num, rfl, by rw [HM.out]; exact HM7.out.1, HM7.out.2.1⟩
                      case measure => simp [intOf]; omega
                    | some y =>
                      have HP := hid (rat_yes _ turned x.key y _ (HTt.out.below HB4.out) hK)
                      rw [hK] at HM
                      simp only [Option.getD_some] at HM
                      clear hK
                      have HLt2 := HLt
                      go_wp2_with (first
                        | (go_at_call 43; ((with_reducible refine HP.out.mono ?_); rintro e w6 ⟨i, rfl, hi, g6⟩; have HB6 := hid (bt HB4.out g6.below); have HO6 := hid (own_gr HO4.out g6); obtain ⟨by_, oy, rfl, _, e0, e1, e2, e3, e4, e5, e6, e7, e8⟩ := (RT.out.below HB6.out).ev hi; have hiL : i < Lt := by { have := (List.getElem?_eq_some_iff.1 hi).1; have := HLt2.out; omega }; have hi0 : ¬ ((i : Int) < 0) := (by omega); have hi1 : decide ((i : Int) < 0) = false := decide_eq_false hi0; have hi2 : (i : Int) < (Lt : Int) := (by omega); have hi3 : (0 : Int) ≤ (i : Int) := (by omega); have hi4 : decide ((0 : Int) ≤ (i : Int)) = true := decide_eq_true hi3; clear hi))
                        | (at_builtin; refine app_evm _ rfl (.tmp 102) (.tmp 107) rfl w.heap.size _ _ rfl HO6.out w HB6.out (Nat.le_refl _) y rfl hml ?_; intro v' w7 hM7; have HM7 := hid hM7; clear hM7))
                      go_roundw
                      case rel => exact ⟨k3 + 1, _, by omega, by go_num, rfl, by rw [HM.out]; exact HM7.out.1, HM7.out.2.1⟩
                      case measure => simp [intOf]; omega
            · have htk3 : was.take k3 = was := List.take_of_length_le (by have := HLu.out; omega)
              have hd3 : decide ((k3 : Int) < (Lu : Int)) = false := by simp; omega
              rw [htk3] at HO
              have hm64 : (midL was gone turned).length ≤ 64 := by
                have h1 := mid_len was gone turned
                have := HLu.out
                omega
              obtain ⟨m, hm'⟩ : ∃ m, Hid (midL was gone turned = m) := ⟨_, hid rfl⟩
              have HLast := hid (fun (hf : ∀ x ∈ fresh, getK was x.key = none) => apply_last HALL.out HQ.out HQ2.out hf)
              have HSev := hid (fun (x : Ev) (hx : x ∈ fresh) (h2 : getK was x.key ≠ none) => apply_seven HALL.out HQ.out HQ2.out hx h2)
              rw [hm'.out] at HO hm64 HLast
              have HV3 := hid (owns_sl (enc := ecs) (k := 9) (fun _ => rfl) HO.out)
              clear htk3 ho hB3 hml HO
              go_wp2_with fail
              go_loopw [12, 17] (fun nv i wr => ∃ (k : Nat) (v : Value), k ≤ Lf ∧ i = .int .i64 k ∧ v = nv ∧ Evs wr v ((fresh.take k).foldl (fun o x => putL x o) m) ∧ Below w.heap.size w wr ∧ Hid (∀ x ∈ fresh.take k, getK was x.key = none)) (fun _ i _ => Lf - (intOf i).toNat)
              case atStart => exact ⟨0, _, Nat.zero_le _, rfl, rfl, HV3.out, HB3.out, hid (by simp)⟩
              case round =>
                obtain ⟨k5, v5, hk5, rfl, rfl, hv5, hB5, hf5⟩ := hrel
                have HV5 := hid hv5
                have HB5 := hid hB5
                have hlen : ((fresh.take k5).foldl (fun o x => putL x o) m).length ≤ 128 := by
                  rw [put_assoc, List.length_take]
                  have := HLf.out
                  omega
                by_cases hlt5 : k5 < Lf
                · obtain ⟨x, hx⟩ := get_lt HLf.out hlt5
                  obtain ⟨b, o, rfl, hb, c0, c1, c2, c3, c4, c5, c6, c7, c8⟩ := (RF.out.below hB5).ev hx
                  have hk1 : (k5 : Int) < (Lf : Int) := by omega
                  have hk0 : (0 : Int) ≤ (k5 : Int) := by omega
                  have HX := hid hx
                  cases hE : getK was x.key with
                  | some y =>
                    have HN : Hid (applyR was gone fresh turned = ([], 7)) := hid (HSev.out x (List.mem_of_getElem? hx) (by rw [hE]; simp))
                    have HP := hid (rat_yes _ was x.key y _ (HU.out.below hB5) hE)
                    clear hx hE hv5 hB5
                    go_wp2_with (go_at_call 43; ((with_reducible refine HP.out.mono ?_); rintro e w5 ⟨i, rfl, hi, g5⟩; have hi0 : (0 : Int) ≤ (i : Int) := (by omega); have hi1 : decide ((0 : Int) ≤ (i : Int)) = true := decide_eq_true hi0; clear hi))
                    go_ret2
                    rw [HN.out]
                    exact ⟨_, rfl, Sl.nil _ _ _, bt HB5.out g5.below⟩
                  | none =>
                    have HF5 := hid (take_mem hx hf5.out (p := fun z : Ev => getK was z.key = none) hE)
                    have HP := hid (rat_no _ was x.key _ (HU.out.below hB5) hE)
                    have HT5 : Hid ((fresh.take (k5 + 1)).foldl (fun o x => putL x o) m = putL x ((fresh.take k5).foldl (fun o x => putL x o) m)) := hid (by rw [← take_snoc hx, List.foldl_append]; rfl)
                    generalize (fresh.take k5).foldl (fun o x => putL x o) m = r at HV5 hv5 hlen HT5
                    clear hx hE hv5 hB5
                    go_wp2_with (first
                      | (go_at_call 43; ((with_reducible refine HP.out.mono ?_); rintro e w5 ⟨rfl, g5⟩; have HB6 := hid (bt HB5.out g5.below); have HV6 := hid (HV5.out.below g5.below); obtain ⟨_, e0, e1, e2, e3, e4, e5, e6, e7, e8⟩ := (RF.out.below HB6.out).ev2 HX.out))
                      | (go_at_call 36; ((with_reducible refine (rput_c _ r x _ HV6.out (by omega)).mono ?_); rintro e w6 ⟨v6, rfl, ho6, g6⟩; have HO6 := hid (owns_sl (enc := ecs) (k := 9) (fun _ => rfl) ho6); clear ho6)))
                    go_roundw
                    case rel => exact ⟨k5 + 1, _, by omega, by go_num, rfl, by rw [HT5.out]; exact HO6.out, bt HB6.out g6, HF5⟩
                    case measure => simp [intOf]; omega
                · have htk5 : fresh.take k5 = fresh := List.take_of_length_le (by have := HLf.out; omega)
                  have hd5 : decide ((k5 : Int) < (Lf : Int)) = false := by simp; omega
                  rw [htk5] at HV5 hf5
                  have HL5 := hid (HLast.out hf5.out)
                  generalize fresh.foldl (fun o x => putL x o) m = r at HV5 HL5
                  have HV5' := HV5
                  obtain ⟨ao5, L5, cap5, rfl, h51, _, _, _⟩ := HV5'.out
                  rw [h51] at HL5
                  clear htk5 hv5 hB5 HV5' h51
                  by_cases h64 : 64 < L5
                  · have d1 : (64 : Int) < (L5 : Int) := by omega
                    have d2 : decide ((64 : Int) < (L5 : Int)) = true := by simpa using d1
                    have HN : Hid (applyR was gone fresh turned = ([], 5)) := hid (by rw [HL5.out, if_pos h64])
                    clear h64
                    go_wp2_with fail
                    go_ret2
                    rw [HN.out]
                    exact ⟨_, rfl, Sl.nil _ _ _, HB5.out⟩
                  · have d1 : ¬ (64 : Int) < (L5 : Int) := by omega
                    have d2 : decide ((64 : Int) < (L5 : Int)) = false := by simpa using d1
                    have HN : Hid (applyR was gone fresh turned = (r, 0)) := hid (by rw [HL5.out, if_neg h64])
                    clear h64
                    go_wp2_with fail
                    go_ret2
                    rw [HN.out]
                    exact ⟨_, rfl, HV5.out, HB5.out⟩

end Go.Proofs.Ytfkbkfaiplhehaa.Ev
