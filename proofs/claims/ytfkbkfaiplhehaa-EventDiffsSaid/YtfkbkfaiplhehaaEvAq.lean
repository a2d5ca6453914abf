/- What Apply returns of a change that suits (layer 11, event). -/
import Derived.Test.YtfkbkfaiplhehaaEvAp
namespace Go.Proofs.Ytfkbkfaiplhehaa.Ev
open Go.RowKit
set_option linter.unusedVariables false

set_option maxRecDepth 100000 in
set_option maxHeartbeats 4000000 in
theorem apply_yes (u g f t : Value) (was : List Ev) (gone : List Ky) (fresh turned : List Ev) (w : World) (hu : Evs w u was) (hg : Kys w g gone) (hf : Evs w f fresh) (ht : Evs w t turned) (lg : gone.length ≤ 4096) (lw : was.length ≤ 64) (lf : fresh.length ≤ 64) (lt : turned.length ≤ 64) (ug : up gone) (ut : up (keys turned)) (hS : suitE was gone fresh turned = 0) :
    Calls Try.prog 21 #[u, .agg #[g, f, t]] w fun e w' => ∃ v', e = .returned (.tuple #[v', .int .i64 (sortR (midL was gone turned ++ fresh)).2]) ∧ Evs w' v' (sortR (midL was gone turned ++ fresh)).1 ∧ Below w.heap.size w w' := by
  have HB0 := hid (bal (br w) (.cells #[g, f, t] 38))
  have HC := hid (At.new w #[g, f, t] 38)
  have HF := hid hf
  have HS := hid (suits_c u g f t was gone fresh turned _ (hu.below HB0.out) (hg.below HB0.out) (hf.below HB0.out) (ht.below HB0.out) lg)
  have HSe := hid (fun W q (k : Below w.heap.size w W) => searchk_c g gone q W (hg.below k) ug lg)
  have HFi := hid (fun W q (k : Below w.heap.size w W) => find_c t turned q W (ht.below k) ut (by omega))
  rw [hS] at HS
  obtain ⟨ao, L, cap, rfl, hL, hc, hm, hT⟩ := hu
  have HL := hid hL
  have HT := hid hT
  have hl64 : L ≤ 64 := by omega
  have HLF := hid lf
  obtain ⟨c0, c1, c2⟩ := HC.out.three
  clear hL hT hg hf ht hS lf lt
  go_enter Try.func21, Try.ntmps21
  go_wp2_with (go_at_call 44; ((with_reducible refine HS.out.mono ?_); rintro e w1 ⟨rfl, g1⟩))
  have HC1 := hid (HC.out.below g1)
  have HB1 := hid (bt HB0.out g1)
  clear g1 c0 c1 c2 HS
  go_loopw [7, 22] (fun nv i wr => ∃ (k : Nat) (v : Value), k ≤ L ∧ i = .int .i64 k ∧ v = nv ∧ At wr w.heap.size #[g, f, t] 38 ∧ wr.ownsRow w.heap.size 31 9 v (midL (was.take k) gone turned).length (flat ecs (midL (was.take k) gone turned)) ∧ Below w.heap.size w wr) (fun _ i _ => L - (intOf i).toNat)
  case atStart => exact ⟨0, _, Nat.zero_le _, rfl, rfl, HC1.out, World.ownsRow_nil _ _ _ _, HB1.out⟩
  case round =>
    obtain ⟨k, v, hk, rfl, rfl, hCr, ho, hB⟩ := hrel
    have HCr := hid hCr
    have HO := hid ho
    have HB := hid hB
    have hml : (midL (was.take k) gone turned).length ≤ 4096 := by
      have h1 := mid_len (was.take k) gone turned
      rw [List.length_take] at h1
      have := HL.out
      omega
    by_cases hlt : k < L
    · obtain ⟨x, hx⟩ := get_lt HL.out hlt
      obtain ⟨b, o, rfl, hb, c0, c1, c2, c3, c4, c5, c6, c7, c8⟩ := (HT.out.below hB).ev hx
      have hk1 : (k : Int) < (L : Int) := by omega
      have hk0 : (0 : Int) ≤ (k : Int) := by omega
      have HMs := hid (mid_step (gone := gone) (turned := turned) hx)
      generalize midL (was.take k) gone turned = m at HO ho HMs hml
      have HE := hid (At.new wr #[.int .i64 x.key.f, .int .i64 x.key.e, .int .i64 x.key.k, .int .i64 x.key.o, .int .i64 x.a, .int .i64 x.g, .int .i64 x.p, .int .i64 x.r, .int .i64 x.l] 31)
      have HCe := hid (hCr.more (.cells #[.int .i64 x.key.f, .int .i64 x.key.e, .int .i64 x.key.k, .int .i64 x.key.o, .int .i64 x.a, .int .i64 x.g, .int .i64 x.p, .int .i64 x.r, .int .i64 x.l] 31))
      have HBe := hid (bal hB (.cells #[.int .i64 x.key.f, .int .i64 x.key.e, .int .i64 x.key.k, .int .i64 x.key.o, .int .i64 x.a, .int .i64 x.g, .int .i64 x.p, .int .i64 x.r, .int .i64 x.l] 31))
      have HOe := hid (own_gr ho (gal (gr wr) (.cells #[.int .i64 x.key.f, .int .i64 x.key.e, .int .i64 x.key.k, .int .i64 x.key.o, .int .i64 x.a, .int .i64 x.g, .int .i64 x.p, .int .i64 x.r, .int .i64 x.l] 31)))
      have hrow : some wr.heap.size ≠ v.ownBlock := fun e => by
        have := (ho.lt _ e.symm).2
        omega
      have hCw : w.heap.size < wr.heap.size := hCr.lt
      clear hx hCr ho hB
      go_upto_region 8 with fail
      obtain ⟨X, hX⟩ : ∃ X, Hid (wr.heap.size = X) := ⟨_, hid rfl⟩
      rw [hX.out] at HE hrow hCw ⊢
      generalize wr.alloc (.cells #[.int .i64 x.key.f, .int .i64 x.key.e, .int .i64 x.key.k, .int .i64 x.key.o, .int .i64 x.a, .int .i64 x.g, .int .i64 x.p, .int .i64 x.r, .int .i64 x.l] 31) = w2 at HE HCe HBe HOe ⊢
      obtain ⟨d0, d1, d2⟩ := HCe.out.three
      obtain ⟨e0, e1, e2, e3, e4, e5, e6, e7, e8⟩ := HE.out.nine
      clear c0 c1 c2 c3 c4 c5 c6 c7 c8
      by_cases hgone : x.key ∈ gone
      · have hd : decide (x.key ∈ gone) = true := by simpa using hgone
        have HSr := hid (HSe.out _ x.key HBe.out)
        rw [hd] at HSr
        have HM : Hid (midL (was.take (k + 1)) gone turned = m) := hid (by rw [HMs.out]; simp [midF, hgone])
        clear hgone hd
        go_wp2_with (go_at_call 45; ((with_reducible refine HSr.out.mono ?_); rintro e w3 ⟨rfl, g3⟩))
        go_roundw
        case rel => exact ⟨k + 1, v, by omega, by go_num, rfl, HCe.out.below g3.below, by rw [HM.out]; exact own_gr HOe.out g3, bt HBe.out g3.below⟩
        case measure => simp [intOf]; omega
      · have hd : decide (x.key ∈ gone) = false := by simpa using hgone
        have HSr := hid (HSe.out _ x.key HBe.out)
        rw [hd] at HSr
        have HM : Hid (midL (was.take (k + 1)) gone turned = m ++ [(getK turned x.key).getD x]) := hid (by rw [HMs.out]; simp [midF, hgone])
        have HFr := hid (fun W (kb : Below w.heap.size w W) => HFi.out W x.key kb)
        clear hgone hd
        cases hK : getK turned x.key with
        | none =>
          rw [hK] at HFr HM
          simp only [Option.getD_none, Option.isSome_none] at HFr HM
          obtain ⟨y, hy⟩ : ∃ y, y = zeroE := ⟨_, rfl⟩
          rw [← hy] at HFr
          clear hK hy
          go_upto_region 13 with (first
            | (go_at_call 45; ((with_reducible refine HSr.out.mono ?_); rintro e w3 ⟨rfl, g3⟩; have G3 := hid g3; obtain ⟨f0, f1, f2⟩ := (HCe.out.below g3.below).three; obtain ⟨k0, k1, k2, k3, _⟩ := (HE.out.below g3.below).nine))
            | (go_at_call 42; ((with_reducible refine (HFr.out _ (bt HBe.out G3.out.below)).mono ?_); rintro e w4 ⟨rfl, g4⟩; have G4 := hid (gal (gt G3.out g4) (.cells #[.int .i64 y.key.f, .int .i64 y.key.e, .int .i64 y.key.k, .int .i64 y.key.o, .int .i64 y.a, .int .i64 y.g, .int .i64 y.p, .int .i64 y.r, .int .i64 y.l] 31)))))
          have HE4 := hid (HE.out.below G4.out.below)
          have HO4 := hid (own_gr HOe.out G4.out)
          have HC4 := hid (HCe.out.below G4.out.below)
          have HB4 := hid (bt HBe.out G4.out.below)
          generalize w4.alloc (.cells #[.int .i64 y.key.f, .int .i64 y.key.e, .int .i64 y.key.k, .int .i64 y.key.o, .int .i64 y.a, .int .i64 y.g, .int .i64 y.p, .int .i64 y.r, .int .i64 y.l] 31) = w5 at HE4 HO4 HC4 HB4 ⊢
          clear d0 d1 d2 e0 e1 e2 e3 e4 e5 e6 e7 e8 f0 f1 f2 k0 k1 k2 k3
          obtain ⟨e0, e1, e2, e3, e4, e5, e6, e7, e8⟩ := HE4.out.nine
          go_wp2_with (at_builtin; refine app_evm _ rfl (.tmp 45) (.tmp 47) rfl w.heap.size _ _ rfl HO4.out w HB4.out (Nat.le_refl _) x rfl hml ?_; intro v' w6 hM6; have HM6 := hid hM6; clear hM6)
          go_roundw
          case rel => exact ⟨k + 1, _, by omega, by go_num, rfl, HC4.out.kept HM6.out.2.2.1 (HC4.out.not_row HO4.out (by decide)), by rw [HM.out]; exact HM6.out.1, HM6.out.2.1⟩
          case measure => simp [intOf]; omega
        | some y =>
          rw [hK] at HFr HM
          simp only [Option.getD_some, Option.isSome_some] at HFr HM
          clear hK
          go_upto_region 13 with (first
            | (go_at_call 45; ((with_reducible refine HSr.out.mono ?_); rintro e w3 ⟨rfl, g3⟩; have G3 := hid g3; obtain ⟨f0, f1, f2⟩ := (HCe.out.below g3.below).three; obtain ⟨k0, k1, k2, k3, _⟩ := (HE.out.below g3.below).nine))
            | (go_at_call 42; ((with_reducible refine (HFr.out _ (bt HBe.out G3.out.below)).mono ?_); rintro e w4 ⟨rfl, g4⟩; have G4 := hid (gal (gt G3.out g4) (.cells #[.int .i64 y.key.f, .int .i64 y.key.e, .int .i64 y.key.k, .int .i64 y.key.o, .int .i64 y.a, .int .i64 y.g, .int .i64 y.p, .int .i64 y.r, .int .i64 y.l] 31)); have HE4 := hid (HE.out.below G4.out.below); obtain ⟨n0, n1, n2, n3, n4, n5, n6, n7, n8⟩ := HE4.out.nine; have z0 := HE4.out.frozen 0; have z1 := HE4.out.frozen 1; have z2 := HE4.out.frozen 2; have z3 := HE4.out.frozen 3; have z4 := HE4.out.frozen 4; have z5 := HE4.out.frozen 5; have z6 := HE4.out.frozen 6; have z7 := HE4.out.frozen 7; have z8 := HE4.out.frozen 8; obtain ⟨y0, y1, y2, y3, y4, y5, y6, y7, y8⟩ := (At.new w4 #[.int .i64 y.key.f, .int .i64 y.key.e, .int .i64 y.key.k, .int .i64 y.key.o, .int .i64 y.a, .int .i64 y.g, .int .i64 y.p, .int .i64 y.r, .int .i64 y.l] 31).nine)))
          obtain ⟨hE5, hB5, far5, own5⟩ := HE4.out.set9 (.int .i64 y.key.f) (.int .i64 y.key.e) (.int .i64 y.key.k) (.int .i64 y.key.o) (.int .i64 y.a) (.int .i64 y.g) (.int .i64 y.p) (.int .i64 y.r) (.int .i64 y.l) (bt HBe.out G4.out.below) (Nat.le_of_lt hCw)
          have hC5 := far5 (HCe.out.below G4.out.below) (by omega)
          have hO5 := own5 (own_gr HOe.out G4.out) hrow
          have HE5 := hid hE5
          have HB5 := hid hB5
          have HC5 := hid hC5
          have HO5 := hid hO5
          clear hE5 hB5 far5 own5 hC5 hO5 d0 d1 d2 e0 e1 e2 e3 e4 e5 e6 e7 e8 f0 f1 f2 k0 k1 k2 k3 n0 n1 n2 n3 n4 n5 n6 n7 n8 z0 z1 z2 z3 z4 z5 z6 z7 z8 y0 y1 y2 y3 y4 y5 y6 y7 y8
          generalize (World.setCell (World.setCell (World.setCell (World.setCell (World.setCell (World.setCell (World.setCell (World.setCell (World.setCell (w4.alloc (.cells #[.int .i64 y.key.f, .int .i64 y.key.e, .int .i64 y.key.k, .int .i64 y.key.o, .int .i64 y.a, .int .i64 y.g, .int .i64 y.p, .int .i64 y.r, .int .i64 y.l] 31)) ⟨X, 0, none⟩ (.int .i64 y.key.f)) ⟨X, 1, none⟩ (.int .i64 y.key.e)) ⟨X, 2, none⟩ (.int .i64 y.key.k)) ⟨X, 3, none⟩ (.int .i64 y.key.o)) ⟨X, 4, none⟩ (.int .i64 y.a)) ⟨X, 5, none⟩ (.int .i64 y.g)) ⟨X, 6, none⟩ (.int .i64 y.p)) ⟨X, 7, none⟩ (.int .i64 y.r)) ⟨X, 8, none⟩ (.int .i64 y.l)) = w5 at HE5 HB5 HC5 HO5 ⊢
          obtain ⟨e0, e1, e2, e3, e4, e5, e6, e7, e8⟩ := HE5.out.nine
          go_wp2_with (at_builtin; refine app_evm _ rfl (.tmp 45) (.tmp 47) rfl w.heap.size _ _ rfl HO5.out w HB5.out (Nat.le_refl _) y rfl hml ?_; intro v' w6 hM6; have HM6 := hid hM6; clear hM6)
          go_roundw
          case rel => exact ⟨k + 1, _, by omega, by go_num, rfl, HC5.out.kept HM6.out.2.2.1 (HC5.out.not_row HO5.out (by decide)), by rw [HM.out]; exact HM6.out.1, HM6.out.2.1⟩
          case measure => simp [intOf]; omega
    · have htk : was.take k = was := List.take_of_length_le (by have := HL.out; omega)
      have hd0 : decide ((k : Int) < (L : Int)) = false := by simp; omega
      rw [htk] at HO hml
      obtain ⟨m, hm'⟩ : ∃ m, Hid (midL was gone turned = m) := ⟨_, hid rfl⟩
      rw [hm'.out] at HO hml
      obtain ⟨c0, c1, c2⟩ := hCr.three
      clear htk ho hB hCr
      go_wp2_with (first
        | (at_builtin; refine app_sl _ rfl (.tmp 50) (.tmp 52) rfl w.heap.size _ m rfl HO.out w HB.out (Nat.le_refl _) f fresh (HF.out.below HB.out) rfl hml (by have := HLF.out; omega) ?_; intro v' w3 ho3 hB3; have HV3 := hid (owns_sl (enc := ecs) (k := 9) (fun _ => rfl) ho3); have HB3 := hid hB3; clear ho3 hB3)
        | (go_at_call 10; ((with_reducible refine (sort_c _ (m ++ fresh) _ HV3.out).mono ?_); rintro e w4 ⟨v4, rfl, hv4, g4⟩; have HV4 := hid hv4; clear hv4)))
      go_ret2
      rw [hm'.out]
      exact ⟨_, rfl, HV4.out, bt HB3.out g4⟩

theorem apply_c (u g f t : Value) (was : List Ev) (gone : List Ky) (fresh turned : List Ev) (w : World) (hu : Evs w u was) (hg : Kys w g gone) (hf : Evs w f fresh) (ht : Evs w t turned) (lg : gone.length ≤ 4096) :
    Calls Try.prog 21 #[u, .agg #[g, f, t]] w fun e w' => ∃ v', e = .returned (.tuple #[v', .int .i64 (applyR was gone fresh turned).2]) ∧ Evs w' v' (applyR was gone fresh turned).1 ∧ Below w.heap.size w w' := by
  unfold applyR
  by_cases hS : suitE was gone fresh turned = 0
  · rw [if_pos hS]
    have h0 : (ordB was && risB gone && ordB fresh && ordB turned) = true := by
      cases hh : (ordB was && risB gone && ordB fresh && ordB turned)
      · unfold suitE at hS
        rw [hh] at hS
        simp at hS
      · rfl
    simp only [Bool.and_eq_true] at h0
    obtain ⟨⟨⟨h1, h2⟩, h3⟩, h4⟩ := h0
    unfold risB at h2
    simp only [Bool.and_eq_true, decide_eq_true_eq] at h2
    exact apply_yes u g f t was gone fresh turned w hu hg hf ht lg (ord_parts h1).2.2 (ord_parts h3).2.2 (ord_parts h4).2.2 h2.2 (ord_parts h4).2.1 hS
  · rw [if_neg hS]
    refine (apply_no u g f t was gone fresh turned w hu hg hf ht lg hS).mono ?_
    rintro e w' ⟨rfl, g⟩
    exact ⟨_, rfl, Sl.nil _ _ _, g⟩

end Go.Proofs.Ytfkbkfaiplhehaa.Ev
