/- What suits returns (layer 11, event). Written by gen/evsuits.py. -/
import Derived.Test.YtfkbkfaiplhehaaEvRd
namespace Go.Proofs.Ytfkbkfaiplhehaa.Ev
open Go.RowKit
set_option linter.unusedVariables false

/-- how many of the keys are those of events of l. -/
def cntK (l : List Ev) (ks : List Ky) : Nat := ks.countP (fun k => decide (k ∈ keys l))
theorem cnt_le (l : List Ev) (ks : List Ky) : cntK l ks ≤ ks.length := List.countP_le_length
/-- which error Apply tells of the parts of a change. -/
def suitE (was : List Ev) (gone : List Ky) (fresh turned : List Ev) : Int :=
  if (ordB was && risB gone && ordB fresh && ordB turned) = true then (if cntK was gone < gone.length ∨ cntK was (keys turned) < turned.length then 6 else if 0 < cntK was (keys fresh) then 7 else 0) else 1
theorem keep3 {y W : World} {b : Nat} {g f t : Value} {T : TypeId} (h : At y b #[g, f, t] T) (k : Below y.heap.size y W) : W.cell? ⟨b, 0, none⟩ = some g ∧ W.cell? ⟨b, 1, none⟩ = some f ∧ W.cell? ⟨b, 2, none⟩ = some t := (h.below k).three

set_option maxRecDepth 100000 in
set_option maxHeartbeats 4000000 in
theorem suits_c (u g f t : Value) (was : List Ev) (gone : List Ky) (fresh turned : List Ev) (w : World) (hu : Evs w u was) (hg : Kys w g gone) (hf : Evs w f fresh) (ht : Evs w t turned) (lg : gone.length ≤ 4096) :
    Calls Try.prog 44 #[u, .agg #[g, f, t]] w fun e w' => e = .returned (.int .i64 (suitE was gone fresh turned)) ∧ Below w.heap.size w w' := by
  have HU := hid hu
  have HF := hid hf
  have HTt := hid ht
  have HGk := hid hg
  have HC := hid (At.new w #[g, f, t] 38)
  have HB0 := hid (bal (br w) (.cells #[g, f, t] 38))
  have HO1 := hid (fun W (k : Below w.heap.size w W) => ordered_c u was W (HU.out.below k))
  have HO2 := hid (fun W (k : Below w.heap.size w W) => ordered_c f fresh W (HF.out.below k))
  have HO3 := hid (fun W (k : Below w.heap.size w W) => ordered_c t turned W (HTt.out.below k))
  have HR : Hid (suitE was gone fresh turned = if (ordB was && risB gone && ordB fresh && ordB turned) = true then (if cntK was gone < gone.length ∨ cntK was (keys turned) < turned.length then 6 else if 0 < cntK was (keys fresh) then 7 else 0) else 1) := hid rfl
  obtain ⟨aog, Lg, capg, rfl, hLg, _, _, _⟩ := hg
  obtain ⟨aot, Lt, capt, rfl, hLt, _, _, _⟩ := ht
  obtain ⟨aof, Lf, capf, rfl, hLf, _, _, _⟩ := hf
  obtain ⟨aou, Lu, capu, rfl, hLu, _, _, _⟩ := hu
  have HLg := hid hLg
  have HLt := hid hLt
  have HVs := hid (fun W (k : Below w.heap.size w W) => values_c _ gone W (HGk.out.below k))
  have HKT := hid (fun W (k : Below w.heap.size w W) => keysof_c _ turned W (HTt.out.below k))
  have HKF := hid (fun W (k : Below w.heap.size w W) => keysof_c _ fresh W (HF.out.below k))
  have HKO := hid (fun (fv : Value) (N : Nat) (W : World) (hs : SeqV N W fv gone) (hN : N ≤ W.heap.size) => kordered_c fv gone N W hs hN)
  clear hLg hLt hLf hLu
  cases h1 : ordB was
  case false =>
    rw [h1] at HO1
    have HE : Hid (suitE was gone fresh turned = 1) := hid (by rw [HR.out, h1]; simp)
    clear h1
    go_enter Try.func44, Try.ntmps44
    go_wp2_with (first
      | (go_at_call 16; ((with_reducible refine (HO1.out _ HB0.out).mono ?_); rintro e w1 ⟨rfl, g1⟩; have HB1 := hid (bt HB0.out g1); have HC1 := hid (HC.out.below g1); obtain ⟨c0, c1, c2⟩ := HC1.out.three))
      | (go_at_call 61; ((with_reducible refine (HVs.out _ HB1.out).mono ?_); rintro e w2 ⟨fv, rfl, hs2, g2⟩; have HB2 := hid (bt HB1.out g2.below); have HC2 := hid (HC1.out.below g2.below); have HSq := hid hs2; clear hs2))
      | (go_at_call 34; ((with_reducible refine (HKO.out fv _ _ HSq.out g2.below.size).mono ?_); rintro e w3 ⟨rfl, g3⟩; have HB3 := hid (bt HB2.out g3); have HC3 := hid (HC2.out.below g3); obtain ⟨d0, d1, d2⟩ := HC3.out.three))
      | (go_at_call 16; ((with_reducible refine (HO2.out _ HB3.out).mono ?_); rintro e w4 ⟨rfl, g4⟩; have HB4 := hid (bt HB3.out g4); have HC4 := hid (HC3.out.below g4); obtain ⟨e0, e1, e2⟩ := HC4.out.three))
      | (go_at_call 16; ((with_reducible refine (HO3.out _ HB4.out).mono ?_); rintro e w5 ⟨rfl, g5⟩; have HB5 := hid (bt HB4.out g5); have HC5 := hid (HC4.out.below g5); obtain ⟨f0, f1, f2⟩ := HC5.out.three)))
    go_ret
    rw [HE.out]
    exact ⟨rfl, HB1.out⟩
  rw [h1] at HO1
  cases h2 : risB gone
  case false =>
    rw [h2] at HKO
    have HE : Hid (suitE was gone fresh turned = 1) := hid (by rw [HR.out, h1, h2]; simp)
    clear h1 h2
    go_enter Try.func44, Try.ntmps44
    go_wp2_with (first
      | (go_at_call 16; ((with_reducible refine (HO1.out _ HB0.out).mono ?_); rintro e w1 ⟨rfl, g1⟩; have HB1 := hid (bt HB0.out g1); have HC1 := hid (HC.out.below g1); obtain ⟨c0, c1, c2⟩ := HC1.out.three))
      | (go_at_call 61; ((with_reducible refine (HVs.out _ HB1.out).mono ?_); rintro e w2 ⟨fv, rfl, hs2, g2⟩; have HB2 := hid (bt HB1.out g2.below); have HC2 := hid (HC1.out.below g2.below); have HSq := hid hs2; clear hs2))
      | (go_at_call 34; ((with_reducible refine (HKO.out fv _ _ HSq.out g2.below.size).mono ?_); rintro e w3 ⟨rfl, g3⟩; have HB3 := hid (bt HB2.out g3); have HC3 := hid (HC2.out.below g3); obtain ⟨d0, d1, d2⟩ := HC3.out.three))
      | (go_at_call 16; ((with_reducible refine (HO2.out _ HB3.out).mono ?_); rintro e w4 ⟨rfl, g4⟩; have HB4 := hid (bt HB3.out g4); have HC4 := hid (HC3.out.below g4); obtain ⟨e0, e1, e2⟩ := HC4.out.three))
      | (go_at_call 16; ((with_reducible refine (HO3.out _ HB4.out).mono ?_); rintro e w5 ⟨rfl, g5⟩; have HB5 := hid (bt HB4.out g5); have HC5 := hid (HC4.out.below g5); obtain ⟨f0, f1, f2⟩ := HC5.out.three)))
    go_ret
    rw [HE.out]
    exact ⟨rfl, HB3.out⟩
  rw [h2] at HKO
  cases h3 : ordB fresh
  case false =>
    rw [h3] at HO2
    have HE : Hid (suitE was gone fresh turned = 1) := hid (by rw [HR.out, h1, h2, h3]; simp)
    clear h1 h2 h3
    go_enter Try.func44, Try.ntmps44
    go_wp2_with (first
      | (go_at_call 16; ((with_reducible refine (HO1.out _ HB0.out).mono ?_); rintro e w1 ⟨rfl, g1⟩; have HB1 := hid (bt HB0.out g1); have HC1 := hid (HC.out.below g1); obtain ⟨c0, c1, c2⟩ := HC1.out.three))
      | (go_at_call 61; ((with_reducible refine (HVs.out _ HB1.out).mono ?_); rintro e w2 ⟨fv, rfl, hs2, g2⟩; have HB2 := hid (bt HB1.out g2.below); have HC2 := hid (HC1.out.below g2.below); have HSq := hid hs2; clear hs2))
      | (go_at_call 34; ((with_reducible refine (HKO.out fv _ _ HSq.out g2.below.size).mono ?_); rintro e w3 ⟨rfl, g3⟩; have HB3 := hid (bt HB2.out g3); have HC3 := hid (HC2.out.below g3); obtain ⟨d0, d1, d2⟩ := HC3.out.three))
      | (go_at_call 16; ((with_reducible refine (HO2.out _ HB3.out).mono ?_); rintro e w4 ⟨rfl, g4⟩; have HB4 := hid (bt HB3.out g4); have HC4 := hid (HC3.out.below g4); obtain ⟨e0, e1, e2⟩ := HC4.out.three))
      | (go_at_call 16; ((with_reducible refine (HO3.out _ HB4.out).mono ?_); rintro e w5 ⟨rfl, g5⟩; have HB5 := hid (bt HB4.out g5); have HC5 := hid (HC4.out.below g5); obtain ⟨f0, f1, f2⟩ := HC5.out.three)))
    go_ret
    rw [HE.out]
    exact ⟨rfl, HB4.out⟩
  rw [h3] at HO2
  cases h4 : ordB turned
  case false =>
    rw [h4] at HO3
    have HE : Hid (suitE was gone fresh turned = 1) := hid (by rw [HR.out, h1, h2, h3, h4]; simp)
    clear h1 h2 h3 h4
    go_enter Try.func44, Try.ntmps44
    go_wp2_with (first
      | (go_at_call 16; ((with_reducible refine (HO1.out _ HB0.out).mono ?_); rintro e w1 ⟨rfl, g1⟩; have HB1 := hid (bt HB0.out g1); have HC1 := hid (HC.out.below g1); obtain ⟨c0, c1, c2⟩ := HC1.out.three))
      | (go_at_call 61; ((with_reducible refine (HVs.out _ HB1.out).mono ?_); rintro e w2 ⟨fv, rfl, hs2, g2⟩; have HB2 := hid (bt HB1.out g2.below); have HC2 := hid (HC1.out.below g2.below); have HSq := hid hs2; clear hs2))
      | (go_at_call 34; ((with_reducible refine (HKO.out fv _ _ HSq.out g2.below.size).mono ?_); rintro e w3 ⟨rfl, g3⟩; have HB3 := hid (bt HB2.out g3); have HC3 := hid (HC2.out.below g3); obtain ⟨d0, d1, d2⟩ := HC3.out.three))
      | (go_at_call 16; ((with_reducible refine (HO2.out _ HB3.out).mono ?_); rintro e w4 ⟨rfl, g4⟩; have HB4 := hid (bt HB3.out g4); have HC4 := hid (HC3.out.below g4); obtain ⟨e0, e1, e2⟩ := HC4.out.three))
      | (go_at_call 16; ((with_reducible refine (HO3.out _ HB4.out).mono ?_); rintro e w5 ⟨rfl, g5⟩; have HB5 := hid (bt HB4.out g5); have HC5 := hid (HC4.out.below g5); obtain ⟨f0, f1, f2⟩ := HC5.out.three)))
    go_ret
    rw [HE.out]
    exact ⟨rfl, HB5.out⟩
  rw [h4] at HO3
  have hup := (ord_parts h1).2.1
  have hul := (ord_parts h1).2.2
  have htl := (ord_parts h4).2.2
  have hfl := (ord_parts h3).2.2
  have HKn := hid (fun (fv : Value) (ks : List Ky) (N : Nat) (W : World) (kb : Below w.heap.size w W) (hs : SeqV N W fv ks) (hN : N ≤ W.heap.size) (hk : ks.length ≤ 4096) => known_c _ was fv ks N W (HU.out.below kb) hup (by omega) hs hN hk)
  rw [h1, h2, h3, h4] at HR
  simp only [Bool.and_self, if_true] at HR
  have hc1 := cnt_le was gone
  have hc2 := cnt_le was (keys turned)
  rw [List.length_map] at hc2
  rw [HLg.out, HLt.out] at HR
  rw [HLg.out] at hc1 lg
  rw [HLt.out] at hc2 htl
  have hkt : (keys turned).length ≤ 4096 := by rw [List.length_map, HLt.out]; omega
  have hkf : (keys fresh).length ≤ 4096 := by rw [List.length_map]; omega
  have hkg : gone.length ≤ 4096 := by rw [HLg.out]; omega
  clear h1 h2 h3 h4 hup hul htl hfl
  obtain ⟨n1, hn1⟩ : ∃ n, Hid (cntK was gone = n) := ⟨_, hid rfl⟩
  obtain ⟨n2, hn2⟩ : ∃ n, Hid (cntK was (keys turned) = n) := ⟨_, hid rfl⟩
  obtain ⟨n3, hn3⟩ : ∃ n, Hid (cntK was (keys fresh) = n) := ⟨_, hid rfl⟩
  rw [hn1.out] at HR hc1
  rw [hn2.out] at HR hc2
  rw [hn3.out] at HR
  go_enter Try.func44, Try.ntmps44
  go_upto_region 3 with (first
    | (go_at_call 16; ((with_reducible refine (HO1.out _ HB0.out).mono ?_); rintro e w1 ⟨rfl, g1⟩; have HB1 := hid (bt HB0.out g1); have HC1 := hid (HC.out.below g1); obtain ⟨c0, c1, c2⟩ := HC1.out.three))
    | (go_at_call 61; ((with_reducible refine (HVs.out _ HB1.out).mono ?_); rintro e w2 ⟨fv, rfl, hs2, g2⟩; have HB2 := hid (bt HB1.out g2.below); have HC2 := hid (HC1.out.below g2.below); have HSq := hid hs2; clear hs2))
    | (go_at_call 34; ((with_reducible refine (HKO.out fv _ _ HSq.out g2.below.size).mono ?_); rintro e w3 ⟨rfl, g3⟩; have HB3 := hid (bt HB2.out g3); have HC3 := hid (HC2.out.below g3); obtain ⟨d0, d1, d2⟩ := HC3.out.three))
    | (go_at_call 16; ((with_reducible refine (HO2.out _ HB3.out).mono ?_); rintro e w4 ⟨rfl, g4⟩; have HB4 := hid (bt HB3.out g4); have HC4 := hid (HC3.out.below g4); obtain ⟨e0, e1, e2⟩ := HC4.out.three))
    | (go_at_call 16; ((with_reducible refine (HO3.out _ HB4.out).mono ?_); rintro e w5 ⟨rfl, g5⟩; have HB5 := hid (bt HB4.out g5); have HC5 := hid (HC4.out.below g5); obtain ⟨f0, f1, f2⟩ := HC5.out.three)))
  have HB := hid HB5.out
  have HCc := hid HC5.out
  have hK := hid (fun W (k : Below w5.heap.size w5 W) => keep3 HCc.out k)
  clear c0 c1 c2 d0 d1 d2 e0 e1 e2 f0 f1 f2
  by_cases q1 : n1 < Lg
  · rw [if_pos (.inl q1)] at HR
    have d1 : (n1 : Int) < (Lg : Int) := by omega
    have d2 : decide ((n1 : Int) < (Lg : Int)) = true := by simpa using d1
    have d2' : decide (n1 < Lg) = true := by simpa using q1
    go_wp2_with fail
    refine wp_region_noPanic ?_
    refine wp_region_held_drew (S := (fun W => Below w5.heap.size w5 W)) (by kernel_rfl) (by first | exact bd1 (br _) | exact bdn (br _) _ | exact br _) (fun hHeld => ?_)
    (refine takeW (i := 0) (d := 27) (v := ?_) rfl rfl (by kernel_rfl) (by kernel_rfl) (by kernel_rfl) (fun _ _ _ h => h) (by rfl) ?_ (by assumption) ?_)
    rotate_left
    · (intro W hSW; go_simp; (try with_reducible rfl))
    simp only [Act.put, List.setIfInBounds_toArray, List.set_cons_zero, List.set_cons_succ]
    (refine takeW (i := 1) (d := 28) (v := ?_) rfl rfl (by kernel_rfl) (by kernel_rfl) (by kernel_rfl) (fun _ _ _ h => h) (by rfl) ?_ (by assumption) ?_)
    rotate_left
    · (intro W hSW; go_simp; (try with_reducible rfl))
    simp only [Act.put, List.setIfInBounds_toArray, List.set_cons_zero, List.set_cons_succ]
    (refine takeW (i := 2) (d := 29) (v := ?_) rfl rfl (by kernel_rfl) (by kernel_rfl) (by kernel_rfl) (fun _ _ _ h => h) (by rfl) ?_ (by assumption) ?_)
    rotate_left
    · (intro W hSW; have hSW2 := hK.out W hSW; go_simp; (try with_reducible rfl))
    simp only [Act.put, List.setIfInBounds_toArray, List.set_cons_zero, List.set_cons_succ]
    (refine takeW (i := 5) (d := 32) (v := ?_) rfl rfl (by kernel_rfl) (by kernel_rfl) (by kernel_rfl) (fun _ _ _ h => h) (by rfl) ?_ (by assumption) ?_)
    rotate_left
    · (intro W hSW; go_simp; (try with_reducible rfl))
    simp only [Act.put, List.setIfInBounds_toArray, List.set_cons_zero, List.set_cons_succ]
    (refine takeW (i := 6) (d := 33) (v := ?_) rfl rfl (by kernel_rfl) (by kernel_rfl) (by kernel_rfl) (fun _ _ _ h => h) (by rfl) ?_ (by assumption) ?_)
    rotate_left
    · (intro W hSW; have hSW2 := hK.out W hSW; go_simp; (try with_reducible rfl))
    simp only [Act.put, List.setIfInBounds_toArray, List.set_cons_zero, List.set_cons_succ]
    (refine takeW (i := 7) (d := 34) (v := ?_) rfl rfl (by kernel_rfl) (by kernel_rfl) (by kernel_rfl) (fun _ _ _ h => h) (by rfl) ?_ (by assumption) ?_)
    rotate_left
    · (intro W hSW; go_simp; (try with_reducible rfl))
    simp only [Act.put, List.setIfInBounds_toArray, List.set_cons_zero, List.set_cons_succ]
    refine wpAnyH_ready (rs := [3]) (by kernel_rfl) (by simp) ?_
    refine AllReadyH.cons (i := 3) rfl (fun K hKK => ?_) AllReadyH.nil
    go_simp
    ((refine (HVs.out _ (bt HB.out (show Below w5.heap.size w5 _ by first | with_reducible assumption | exact bdn (br _) _ | exact bd1 (br _) | exact br _))).mono ?_); rintro e1 y1 ⟨fv1, rfl, hs1, hy1⟩; have hgy1 := bt (show Below w5.heap.size w5 _ by first | with_reducible assumption | exact bdn (br _) _ | exact bd1 (br _) | exact br _) hy1.below; have HS1 := hid hs1; clear hs1)
    dsimp only
    refine hKK.out _ _ hgy1 (fun hHeld => ?_)
    clear hKK K
    (try simp only [Act.put, List.setIfInBounds_toArray, List.set_cons_zero, List.set_cons_succ])
    refine wpAnyH_ready (rs := [4]) (by kernel_rfl) (by simp) ?_
    refine AllReadyH.cons (i := 4) rfl (fun K hKK => ?_) AllReadyH.nil
    go_simp
    ((refine (HKn.out fv1 gone _ _ (bt HB.out hgy1) HS1.out hy1.below.size hkg).mono ?_); rintro e1 y2 ⟨rfl, hy2⟩; rw [show List.countP (fun k => decide (k ∈ keys was)) gone = n1 from hn1.out]; have hgy2 := bt hgy1 hy2)
    dsimp only
    refine hKK.out _ _ hgy2 (fun hHeld => ?_)
    clear hKK K
    (try simp only [Act.put, List.setIfInBounds_toArray, List.set_cons_zero, List.set_cons_succ])
    (refine takeW (i := 8) (d := 35) (v := ?_) rfl rfl (by kernel_rfl) (by kernel_rfl) (by kernel_rfl) (fun _ _ _ h => h) (by rfl) ?_ (by assumption) ?_)
    rotate_left
    · (intro W hSW; go_simp; (try with_reducible rfl))
    simp only [Act.put, List.setIfInBounds_toArray, List.set_cons_zero, List.set_cons_succ]
    (refine takeW (i := 9) (d := 36) (v := ?_) rfl rfl (by kernel_rfl) (by kernel_rfl) (by kernel_rfl) (fun _ _ _ h => h) (by rfl) ?_ (by assumption) ?_)
    rotate_left
    · (intro W hSW; go_simp; (try with_reducible rfl))
    simp only [Act.put, List.setIfInBounds_toArray, List.set_cons_zero, List.set_cons_succ]
    refine skipW (i := 10) (d := 37) rfl rfl (by kernel_rfl) (by kernel_rfl) (by kernel_rfl) (fun _ _ _ h => h) (by rfl) (by assumption) ?_
    simp only [Act.put, List.setIfInBounds_toArray, List.set_cons_zero, List.set_cons_succ]
    refine skipW (i := 11) (d := 38) rfl rfl (by kernel_rfl) (by kernel_rfl) (by kernel_rfl) (fun _ _ _ h => h) (by rfl) (by assumption) ?_
    simp only [Act.put, List.setIfInBounds_toArray, List.set_cons_zero, List.set_cons_succ]
    refine skipW (i := 12) (d := 39) rfl rfl (by kernel_rfl) (by kernel_rfl) (by kernel_rfl) (fun _ _ _ h => h) (by rfl) (by assumption) ?_
    simp only [Act.put, List.setIfInBounds_toArray, List.set_cons_zero, List.set_cons_succ]
    refine skipW (i := 13) (d := 40) rfl rfl (by kernel_rfl) (by kernel_rfl) (by kernel_rfl) (fun _ _ _ h => h) (by rfl) (by assumption) ?_
    simp only [Act.put, List.setIfInBounds_toArray, List.set_cons_zero, List.set_cons_succ]
    refine skipW (i := 14) (d := 41) rfl rfl (by kernel_rfl) (by kernel_rfl) (by kernel_rfl) (fun _ _ _ h => h) (by rfl) (by assumption) ?_
    simp only [Act.put, List.setIfInBounds_toArray, List.set_cons_zero, List.set_cons_succ]
    refine skipW (i := 15) (d := 42) rfl rfl (by kernel_rfl) (by kernel_rfl) (by kernel_rfl) (fun _ _ _ h => h) (by rfl) (by assumption) ?_
    simp only [Act.put, List.setIfInBounds_toArray, List.set_cons_zero, List.set_cons_succ]
    refine skipW (i := 16) (d := 43) rfl rfl (by kernel_rfl) (by kernel_rfl) (by kernel_rfl) (fun _ _ _ h => h) (by rfl) (by assumption) ?_
    simp only [Act.put, List.setIfInBounds_toArray, List.set_cons_zero, List.set_cons_succ]
    refine skipW (i := 17) (d := 44) rfl rfl (by kernel_rfl) (by kernel_rfl) (by kernel_rfl) (fun _ _ _ h => h) (by rfl) (by assumption) ?_
    simp only [Act.put, List.setIfInBounds_toArray, List.set_cons_zero, List.set_cons_succ]
    refine skipW (i := 18) (d := 45) rfl rfl (by kernel_rfl) (by kernel_rfl) (by kernel_rfl) (fun _ _ _ h => h) (by rfl) (by assumption) ?_
    simp only [Act.put, List.setIfInBounds_toArray, List.set_cons_zero, List.set_cons_succ]
    (refine takeW (i := 19) (d := 46) (v := ?_) rfl rfl (by kernel_rfl) (by kernel_rfl) (by kernel_rfl) (fun _ _ _ h => h) (by rfl) ?_ (by assumption) ?_)
    rotate_left
    · (intro W hSW; go_simp; (try with_reducible rfl))
    simp only [Act.put, List.setIfInBounds_toArray, List.set_cons_zero, List.set_cons_succ]
    refine wpAnyH_done (by kernel_rfl) ?_ _
    refine NoPanic.normal ?_
    go_wp2_with fail
    go_ret
    rw [HR.out]
    exact ⟨rfl, bt HB.out hgy2⟩
  have d1 : ¬ (n1 : Int) < (Lg : Int) := by omega
  have d2 : decide ((n1 : Int) < (Lg : Int)) = false := by simpa using d1
  have d2' : decide (n1 < Lg) = false := by simpa using q1
  by_cases q2 : n2 < Lt
  · rw [if_pos (.inr q2)] at HR
    have d3 : (n2 : Int) < (Lt : Int) := by omega
    have d4 : decide ((n2 : Int) < (Lt : Int)) = true := by simpa using d3
    have d4' : decide (n2 < Lt) = true := by simpa using q2
    go_wp2_with fail
    refine wp_region_noPanic ?_
    refine wp_region_held_drew (S := (fun W => Below w5.heap.size w5 W)) (by kernel_rfl) (by first | exact bd1 (br _) | exact bdn (br _) _ | exact br _) (fun hHeld => ?_)
    (refine takeW (i := 0) (d := 27) (v := ?_) rfl rfl (by kernel_rfl) (by kernel_rfl) (by kernel_rfl) (fun _ _ _ h => h) (by rfl) ?_ (by assumption) ?_)
    rotate_left
    · (intro W hSW; go_simp; (try with_reducible rfl))
    simp only [Act.put, List.setIfInBounds_toArray, List.set_cons_zero, List.set_cons_succ]
    (refine takeW (i := 1) (d := 28) (v := ?_) rfl rfl (by kernel_rfl) (by kernel_rfl) (by kernel_rfl) (fun _ _ _ h => h) (by rfl) ?_ (by assumption) ?_)
    rotate_left
    · (intro W hSW; go_simp; (try with_reducible rfl))
    simp only [Act.put, List.setIfInBounds_toArray, List.set_cons_zero, List.set_cons_succ]
    (refine takeW (i := 2) (d := 29) (v := ?_) rfl rfl (by kernel_rfl) (by kernel_rfl) (by kernel_rfl) (fun _ _ _ h => h) (by rfl) ?_ (by assumption) ?_)
    rotate_left
    · (intro W hSW; have hSW2 := hK.out W hSW; go_simp; (try with_reducible rfl))
    simp only [Act.put, List.setIfInBounds_toArray, List.set_cons_zero, List.set_cons_succ]
    (refine takeW (i := 5) (d := 32) (v := ?_) rfl rfl (by kernel_rfl) (by kernel_rfl) (by kernel_rfl) (fun _ _ _ h => h) (by rfl) ?_ (by assumption) ?_)
    rotate_left
    · (intro W hSW; go_simp; (try with_reducible rfl))
    simp only [Act.put, List.setIfInBounds_toArray, List.set_cons_zero, List.set_cons_succ]
    (refine takeW (i := 6) (d := 33) (v := ?_) rfl rfl (by kernel_rfl) (by kernel_rfl) (by kernel_rfl) (fun _ _ _ h => h) (by rfl) ?_ (by assumption) ?_)
    rotate_left
    · (intro W hSW; have hSW2 := hK.out W hSW; go_simp; (try with_reducible rfl))
    simp only [Act.put, List.setIfInBounds_toArray, List.set_cons_zero, List.set_cons_succ]
    (refine takeW (i := 7) (d := 34) (v := ?_) rfl rfl (by kernel_rfl) (by kernel_rfl) (by kernel_rfl) (fun _ _ _ h => h) (by rfl) ?_ (by assumption) ?_)
    rotate_left
    · (intro W hSW; go_simp; (try with_reducible rfl))
    simp only [Act.put, List.setIfInBounds_toArray, List.set_cons_zero, List.set_cons_succ]
    refine wpAnyH_ready (rs := [3]) (by kernel_rfl) (by simp) ?_
    refine AllReadyH.cons (i := 3) rfl (fun K hKK => ?_) AllReadyH.nil
    go_simp
    ((refine (HVs.out _ (bt HB.out (show Below w5.heap.size w5 _ by first | with_reducible assumption | exact bdn (br _) _ | exact bd1 (br _) | exact br _))).mono ?_); rintro e1 y1 ⟨fv1, rfl, hs1, hy1⟩; have hgy1 := bt (show Below w5.heap.size w5 _ by first | with_reducible assumption | exact bdn (br _) _ | exact bd1 (br _) | exact br _) hy1.below; have HS1 := hid hs1; clear hs1)
    dsimp only
    refine hKK.out _ _ hgy1 (fun hHeld => ?_)
    clear hKK K
    (try simp only [Act.put, List.setIfInBounds_toArray, List.set_cons_zero, List.set_cons_succ])
    refine wpAnyH_ready (rs := [4]) (by kernel_rfl) (by simp) ?_
    refine AllReadyH.cons (i := 4) rfl (fun K hKK => ?_) AllReadyH.nil
    go_simp
    ((refine (HKn.out fv1 gone _ _ (bt HB.out hgy1) HS1.out hy1.below.size hkg).mono ?_); rintro e1 y2 ⟨rfl, hy2⟩; rw [show List.countP (fun k => decide (k ∈ keys was)) gone = n1 from hn1.out]; have hgy2 := bt hgy1 hy2)
    dsimp only
    refine hKK.out _ _ hgy2 (fun hHeld => ?_)
    clear hKK K
    (try simp only [Act.put, List.setIfInBounds_toArray, List.set_cons_zero, List.set_cons_succ])
    (refine takeW (i := 8) (d := 35) (v := ?_) rfl rfl (by kernel_rfl) (by kernel_rfl) (by kernel_rfl) (fun _ _ _ h => h) (by rfl) ?_ (by assumption) ?_)
    rotate_left
    · (intro W hSW; go_simp; (try with_reducible rfl))
    simp only [Act.put, List.setIfInBounds_toArray, List.set_cons_zero, List.set_cons_succ]
    (refine takeW (i := 9) (d := 36) (v := ?_) rfl rfl (by kernel_rfl) (by kernel_rfl) (by kernel_rfl) (fun _ _ _ h => h) (by rfl) ?_ (by assumption) ?_)
    rotate_left
    · (intro W hSW; go_simp; (try with_reducible rfl))
    simp only [Act.put, List.setIfInBounds_toArray, List.set_cons_zero, List.set_cons_succ]
    (refine takeW (i := 10) (d := 37) (v := ?_) rfl rfl (by kernel_rfl) (by kernel_rfl) (by kernel_rfl) (fun _ _ _ h => h) (by rfl) ?_ (by assumption) ?_)
    rotate_left
    · (intro W hSW; go_simp; (try with_reducible rfl))
    simp only [Act.put, List.setIfInBounds_toArray, List.set_cons_zero, List.set_cons_succ]
    (refine takeW (i := 11) (d := 38) (v := ?_) rfl rfl (by kernel_rfl) (by kernel_rfl) (by kernel_rfl) (fun _ _ _ h => h) (by rfl) ?_ (by assumption) ?_)
    rotate_left
    · (intro W hSW; go_simp; (try with_reducible rfl))
    simp only [Act.put, List.setIfInBounds_toArray, List.set_cons_zero, List.set_cons_succ]
    (refine takeW (i := 12) (d := 39) (v := ?_) rfl rfl (by kernel_rfl) (by kernel_rfl) (by kernel_rfl) (fun _ _ _ h => h) (by rfl) ?_ (by assumption) ?_)
    rotate_left
    · (intro W hSW; have hSW2 := hK.out W hSW; go_simp; (try with_reducible rfl))
    simp only [Act.put, List.setIfInBounds_toArray, List.set_cons_zero, List.set_cons_succ]
    (refine takeW (i := 15) (d := 42) (v := ?_) rfl rfl (by kernel_rfl) (by kernel_rfl) (by kernel_rfl) (fun _ _ _ h => h) (by rfl) ?_ (by assumption) ?_)
    rotate_left
    · (intro W hSW; go_simp; (try with_reducible rfl))
    simp only [Act.put, List.setIfInBounds_toArray, List.set_cons_zero, List.set_cons_succ]
    (refine takeW (i := 16) (d := 43) (v := ?_) rfl rfl (by kernel_rfl) (by kernel_rfl) (by kernel_rfl) (fun _ _ _ h => h) (by rfl) ?_ (by assumption) ?_)
    rotate_left
    · (intro W hSW; have hSW2 := hK.out W hSW; go_simp; (try with_reducible rfl))
    simp only [Act.put, List.setIfInBounds_toArray, List.set_cons_zero, List.set_cons_succ]
    (refine takeW (i := 17) (d := 44) (v := ?_) rfl rfl (by kernel_rfl) (by kernel_rfl) (by kernel_rfl) (fun _ _ _ h => h) (by rfl) ?_ (by assumption) ?_)
    rotate_left
    · (intro W hSW; go_simp; (try with_reducible rfl))
    simp only [Act.put, List.setIfInBounds_toArray, List.set_cons_zero, List.set_cons_succ]
    refine wpAnyH_ready (rs := [13]) (by kernel_rfl) (by simp) ?_
    refine AllReadyH.cons (i := 13) rfl (fun K hKK => ?_) AllReadyH.nil
    go_simp
    ((refine (HKT.out _ (bt HB.out hgy2)).mono ?_); rintro e1 y3 ⟨fv3, rfl, hs3, hy3⟩; have hgy3 := bt hgy2 hy3.below; have HS3 := hid hs3; clear hs3)
    dsimp only
    refine hKK.out _ _ hgy3 (fun hHeld => ?_)
    clear hKK K
    (try simp only [Act.put, List.setIfInBounds_toArray, List.set_cons_zero, List.set_cons_succ])
    refine wpAnyH_ready (rs := [14]) (by kernel_rfl) (by simp) ?_
    refine AllReadyH.cons (i := 14) rfl (fun K hKK => ?_) AllReadyH.nil
    go_simp
    ((refine (HKn.out fv3 (keys turned) _ _ (bt HB.out hgy3) HS3.out hy3.below.size hkt).mono ?_); rintro e1 y4 ⟨rfl, hy4⟩; rw [show List.countP (fun k => decide (k ∈ keys was)) (keys turned) = n2 from hn2.out]; have hgy4 := bt hgy3 hy4)
    dsimp only
    refine hKK.out _ _ hgy4 (fun hHeld => ?_)
    clear hKK K
    (try simp only [Act.put, List.setIfInBounds_toArray, List.set_cons_zero, List.set_cons_succ])
    (refine takeW (i := 18) (d := 45) (v := ?_) rfl rfl (by kernel_rfl) (by kernel_rfl) (by kernel_rfl) (fun _ _ _ h => h) (by rfl) ?_ (by assumption) ?_)
    rotate_left
    · (intro W hSW; go_simp; (try with_reducible rfl))
    simp only [Act.put, List.setIfInBounds_toArray, List.set_cons_zero, List.set_cons_succ]
    (refine takeW (i := 19) (d := 46) (v := ?_) rfl rfl (by kernel_rfl) (by kernel_rfl) (by kernel_rfl) (fun _ _ _ h => h) (by rfl) ?_ (by assumption) ?_)
    rotate_left
    · (intro W hSW; go_simp; (try with_reducible rfl))
    simp only [Act.put, List.setIfInBounds_toArray, List.set_cons_zero, List.set_cons_succ]
    refine wpAnyH_done (by kernel_rfl) ?_ _
    refine NoPanic.normal ?_
    go_wp2_with fail
    go_ret
    rw [HR.out]
    exact ⟨rfl, bt HB.out hgy4⟩
  rw [if_neg (by omega)] at HR
  have d3 : ¬ (n2 : Int) < (Lt : Int) := by omega
  have d4 : decide ((n2 : Int) < (Lt : Int)) = false := by simpa using d3
  have d4' : decide (n2 < Lt) = false := by simpa using q2
  go_wp2_with fail
  refine wp_region_noPanic ?_
  refine wp_region_held_drew (S := (fun W => Below w5.heap.size w5 W)) (by kernel_rfl) (by first | exact bd1 (br _) | exact bdn (br _) _ | exact br _) (fun hHeld => ?_)
  (refine takeW (i := 0) (d := 27) (v := ?_) rfl rfl (by kernel_rfl) (by kernel_rfl) (by kernel_rfl) (fun _ _ _ h => h) (by rfl) ?_ (by assumption) ?_)
  rotate_left
  · (intro W hSW; go_simp; (try with_reducible rfl))
  simp only [Act.put, List.setIfInBounds_toArray, List.set_cons_zero, List.set_cons_succ]
  (refine takeW (i := 1) (d := 28) (v := ?_) rfl rfl (by kernel_rfl) (by kernel_rfl) (by kernel_rfl) (fun _ _ _ h => h) (by rfl) ?_ (by assumption) ?_)
  rotate_left
  · (intro W hSW; go_simp; (try with_reducible rfl))
  simp only [Act.put, List.setIfInBounds_toArray, List.set_cons_zero, List.set_cons_succ]
  (refine takeW (i := 2) (d := 29) (v := ?_) rfl rfl (by kernel_rfl) (by kernel_rfl) (by kernel_rfl) (fun _ _ _ h => h) (by rfl) ?_ (by assumption) ?_)
  rotate_left
  · (intro W hSW; have hSW2 := hK.out W hSW; go_simp; (try with_reducible rfl))
  simp only [Act.put, List.setIfInBounds_toArray, List.set_cons_zero, List.set_cons_succ]
  (refine takeW (i := 5) (d := 32) (v := ?_) rfl rfl (by kernel_rfl) (by kernel_rfl) (by kernel_rfl) (fun _ _ _ h => h) (by rfl) ?_ (by assumption) ?_)
  rotate_left
  · (intro W hSW; go_simp; (try with_reducible rfl))
  simp only [Act.put, List.setIfInBounds_toArray, List.set_cons_zero, List.set_cons_succ]
  (refine takeW (i := 6) (d := 33) (v := ?_) rfl rfl (by kernel_rfl) (by kernel_rfl) (by kernel_rfl) (fun _ _ _ h => h) (by rfl) ?_ (by assumption) ?_)
  rotate_left
  · (intro W hSW; have hSW2 := hK.out W hSW; go_simp; (try with_reducible rfl))
  simp only [Act.put, List.setIfInBounds_toArray, List.set_cons_zero, List.set_cons_succ]
  (refine takeW (i := 7) (d := 34) (v := ?_) rfl rfl (by kernel_rfl) (by kernel_rfl) (by kernel_rfl) (fun _ _ _ h => h) (by rfl) ?_ (by assumption) ?_)
  rotate_left
  · (intro W hSW; go_simp; (try with_reducible rfl))
  simp only [Act.put, List.setIfInBounds_toArray, List.set_cons_zero, List.set_cons_succ]
  refine wpAnyH_ready (rs := [3]) (by kernel_rfl) (by simp) ?_
  refine AllReadyH.cons (i := 3) rfl (fun K hKK => ?_) AllReadyH.nil
  go_simp
  ((refine (HVs.out _ (bt HB.out (show Below w5.heap.size w5 _ by first | with_reducible assumption | exact bdn (br _) _ | exact bd1 (br _) | exact br _))).mono ?_); rintro e1 y1 ⟨fv1, rfl, hs1, hy1⟩; have hgy1 := bt (show Below w5.heap.size w5 _ by first | with_reducible assumption | exact bdn (br _) _ | exact bd1 (br _) | exact br _) hy1.below; have HS1 := hid hs1; clear hs1)
  dsimp only
  refine hKK.out _ _ hgy1 (fun hHeld => ?_)
  clear hKK K
  (try simp only [Act.put, List.setIfInBounds_toArray, List.set_cons_zero, List.set_cons_succ])
  refine wpAnyH_ready (rs := [4]) (by kernel_rfl) (by simp) ?_
  refine AllReadyH.cons (i := 4) rfl (fun K hKK => ?_) AllReadyH.nil
  go_simp
  ((refine (HKn.out fv1 gone _ _ (bt HB.out hgy1) HS1.out hy1.below.size hkg).mono ?_); rintro e1 y2 ⟨rfl, hy2⟩; rw [show List.countP (fun k => decide (k ∈ keys was)) gone = n1 from hn1.out]; have hgy2 := bt hgy1 hy2)
  dsimp only
  refine hKK.out _ _ hgy2 (fun hHeld => ?_)
  clear hKK K
  (try simp only [Act.put, List.setIfInBounds_toArray, List.set_cons_zero, List.set_cons_succ])
  (refine takeW (i := 8) (d := 35) (v := ?_) rfl rfl (by kernel_rfl) (by kernel_rfl) (by kernel_rfl) (fun _ _ _ h => h) (by rfl) ?_ (by assumption) ?_)
  rotate_left
  · (intro W hSW; go_simp; (try with_reducible rfl))
  simp only [Act.put, List.setIfInBounds_toArray, List.set_cons_zero, List.set_cons_succ]
  (refine takeW (i := 9) (d := 36) (v := ?_) rfl rfl (by kernel_rfl) (by kernel_rfl) (by kernel_rfl) (fun _ _ _ h => h) (by rfl) ?_ (by assumption) ?_)
  rotate_left
  · (intro W hSW; go_simp; (try with_reducible rfl))
  simp only [Act.put, List.setIfInBounds_toArray, List.set_cons_zero, List.set_cons_succ]
  (refine takeW (i := 10) (d := 37) (v := ?_) rfl rfl (by kernel_rfl) (by kernel_rfl) (by kernel_rfl) (fun _ _ _ h => h) (by rfl) ?_ (by assumption) ?_)
  rotate_left
  · (intro W hSW; go_simp; (try with_reducible rfl))
  simp only [Act.put, List.setIfInBounds_toArray, List.set_cons_zero, List.set_cons_succ]
  (refine takeW (i := 11) (d := 38) (v := ?_) rfl rfl (by kernel_rfl) (by kernel_rfl) (by kernel_rfl) (fun _ _ _ h => h) (by rfl) ?_ (by assumption) ?_)
  rotate_left
  · (intro W hSW; go_simp; (try with_reducible rfl))
  simp only [Act.put, List.setIfInBounds_toArray, List.set_cons_zero, List.set_cons_succ]
  (refine takeW (i := 12) (d := 39) (v := ?_) rfl rfl (by kernel_rfl) (by kernel_rfl) (by kernel_rfl) (fun _ _ _ h => h) (by rfl) ?_ (by assumption) ?_)
  rotate_left
  · (intro W hSW; have hSW2 := hK.out W hSW; go_simp; (try with_reducible rfl))
  simp only [Act.put, List.setIfInBounds_toArray, List.set_cons_zero, List.set_cons_succ]
  (refine takeW (i := 15) (d := 42) (v := ?_) rfl rfl (by kernel_rfl) (by kernel_rfl) (by kernel_rfl) (fun _ _ _ h => h) (by rfl) ?_ (by assumption) ?_)
  rotate_left
  · (intro W hSW; go_simp; (try with_reducible rfl))
  simp only [Act.put, List.setIfInBounds_toArray, List.set_cons_zero, List.set_cons_succ]
  (refine takeW (i := 16) (d := 43) (v := ?_) rfl rfl (by kernel_rfl) (by kernel_rfl) (by kernel_rfl) (fun _ _ _ h => h) (by rfl) ?_ (by assumption) ?_)
  rotate_left
  · (intro W hSW; have hSW2 := hK.out W hSW; go_simp; (try with_reducible rfl))
  simp only [Act.put, List.setIfInBounds_toArray, List.set_cons_zero, List.set_cons_succ]
  (refine takeW (i := 17) (d := 44) (v := ?_) rfl rfl (by kernel_rfl) (by kernel_rfl) (by kernel_rfl) (fun _ _ _ h => h) (by rfl) ?_ (by assumption) ?_)
  rotate_left
  · (intro W hSW; go_simp; (try with_reducible rfl))
  simp only [Act.put, List.setIfInBounds_toArray, List.set_cons_zero, List.set_cons_succ]
  refine wpAnyH_ready (rs := [13]) (by kernel_rfl) (by simp) ?_
  refine AllReadyH.cons (i := 13) rfl (fun K hKK => ?_) AllReadyH.nil
  go_simp
  ((refine (HKT.out _ (bt HB.out hgy2)).mono ?_); rintro e1 y3 ⟨fv3, rfl, hs3, hy3⟩; have hgy3 := bt hgy2 hy3.below; have HS3 := hid hs3; clear hs3)
  dsimp only
  refine hKK.out _ _ hgy3 (fun hHeld => ?_)
  clear hKK K
  (try simp only [Act.put, List.setIfInBounds_toArray, List.set_cons_zero, List.set_cons_succ])
  refine wpAnyH_ready (rs := [14]) (by kernel_rfl) (by simp) ?_
  refine AllReadyH.cons (i := 14) rfl (fun K hKK => ?_) AllReadyH.nil
  go_simp
  ((refine (HKn.out fv3 (keys turned) _ _ (bt HB.out hgy3) HS3.out hy3.below.size hkt).mono ?_); rintro e1 y4 ⟨rfl, hy4⟩; rw [show List.countP (fun k => decide (k ∈ keys was)) (keys turned) = n2 from hn2.out]; have hgy4 := bt hgy3 hy4)
  dsimp only
  refine hKK.out _ _ hgy4 (fun hHeld => ?_)
  clear hKK K
  (try simp only [Act.put, List.setIfInBounds_toArray, List.set_cons_zero, List.set_cons_succ])
  (refine takeW (i := 18) (d := 45) (v := ?_) rfl rfl (by kernel_rfl) (by kernel_rfl) (by kernel_rfl) (fun _ _ _ h => h) (by rfl) ?_ (by assumption) ?_)
  rotate_left
  · (intro W hSW; go_simp; (try with_reducible rfl))
  simp only [Act.put, List.setIfInBounds_toArray, List.set_cons_zero, List.set_cons_succ]
  (refine takeW (i := 19) (d := 46) (v := ?_) rfl rfl (by kernel_rfl) (by kernel_rfl) (by kernel_rfl) (fun _ _ _ h => h) (by rfl) ?_ (by assumption) ?_)
  rotate_left
  · (intro W hSW; go_simp; (try with_reducible rfl))
  simp only [Act.put, List.setIfInBounds_toArray, List.set_cons_zero, List.set_cons_succ]
  refine wpAnyH_done (by kernel_rfl) ?_ _
  refine NoPanic.normal ?_
  obtain ⟨c0, c1, c2⟩ := hK.out _ hgy4
  by_cases q3 : 0 < n3
  · rw [if_pos q3] at HR
    have d5 : (0 : Int) < (n3 : Int) := by omega
    have d6 : decide ((0 : Int) < (n3 : Int)) = true := by simpa using d5
    have d6' : decide (0 < n3) = true := by simpa using q3
    go_wp2_with (first
      | (go_at_call 35; ((with_reducible refine (HKF.out _ (bt HB.out hgy4)).mono ?_); rintro e y5 ⟨fv5, rfl, hs5, g5⟩; have hgy5 := bt hgy4 g5.below; have HS5 := hid hs5; clear hs5))
      | (go_at_call 62; ((refine (HKn.out fv5 (keys fresh) _ _ (bt HB.out hgy5) HS5.out g5.below.size hkf).mono ?_); rintro e y6 ⟨rfl, g6⟩; rw [show List.countP (fun k => decide (k ∈ keys was)) (keys fresh) = n3 from hn3.out]; have hgy6 := bt hgy5 g6)))
    go_ret
    rw [HR.out]
    exact ⟨rfl, bt HB.out hgy6⟩
  · rw [if_neg q3] at HR
    have d5 : ¬ (0 : Int) < (n3 : Int) := by omega
    have d6 : decide ((0 : Int) < (n3 : Int)) = false := by simpa using d5
    have d6' : decide (0 < n3) = false := by simpa using q3
    go_wp2_with (first
      | (go_at_call 35; ((with_reducible refine (HKF.out _ (bt HB.out hgy4)).mono ?_); rintro e y5 ⟨fv5, rfl, hs5, g5⟩; have hgy5 := bt hgy4 g5.below; have HS5 := hid hs5; clear hs5))
      | (go_at_call 62; ((refine (HKn.out fv5 (keys fresh) _ _ (bt HB.out hgy5) HS5.out g5.below.size hkf).mono ?_); rintro e y6 ⟨rfl, g6⟩; rw [show List.countP (fun k => decide (k ∈ keys was)) (keys fresh) = n3 from hn3.out]; have hgy6 := bt hgy5 g6)))
    go_ret
    rw [HR.out]
    exact ⟨rfl, bt HB.out hgy6⟩

end Go.Proofs.Ytfkbkfaiplhehaa.Ev
