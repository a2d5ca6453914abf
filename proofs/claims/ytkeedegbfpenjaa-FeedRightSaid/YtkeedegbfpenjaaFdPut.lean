/- What Put and Take of layer 14 (feed) return, and what they leave of the feed. -/
import Derived.Test.YtkeedegbfpenjaaFdCalls
namespace Go.Proofs.Ytkeedegbfpenjaa.Fd
open Go.RowKit Go.Proofs.Ytkeedegbfpenjaa.Rg
set_option linter.unusedVariables false

theorem put_nil (f a : Int) (w : World) :
    Calls Try.prog 7 #[.pointer none, .int .i64 f, .int .u8 a] w fun e w' => e = .returned (.int .i64 2) ∧ w = w' := by
  go_enter Try.func7, Try.ntmps7
  go_wp2_with fail
  go_ret
  exact ⟨rfl, rfl⟩

theorem putM_no {m : Fd} {f a : Int} (h : putE m f a ≠ 0) : putM m f a = m := by unfold putM; rw [if_neg h]
theorem putM_yes {m : Fd} {f a : Int} (h : putE m f a = 0) : putM m f a = { m with L := m.L ++ [a] } := by unfold putM; rw [if_pos h]
theorem kept_put {m : Fd} (h : Ok m) (a : Int) : kept { m with L := m.L ++ [a] } = kept m ++ [a] := by
  unfold kept
  exact List.drop_append_of_le_length h.le
theorem gs_put (m : Fd) (a : Int) : gs { m with L := m.L ++ [a] } = a := by simp [gs]

theorem put_arg (f a : Int) (n₀ b : Nat) (F : Nat → Prop) (m : Fd) (w : World) (h : Fed w n₀ b F m) (ha : 63 < a ∨ f < 0 ∨ 1073741824 < f) :
    Calls Try.prog 7 #[.pointer (some ⟨b, 0, none⟩), .int .i64 f, .int .u8 a] w fun e w' => e = .returned (.int .i64 (putE m f a)) ∧ Left n₀ b F (putM m f a) w w' := by
  have e1 : putE m f a = 1 := by unfold putE; rw [if_pos ha]
  rw [putM_no (by rw [e1]; decide), e1]
  have HL := hid (Left.same h (Below.refl _ _))
  clear h e1
  by_cases h1 : 63 < a
  · have d1 : decide (63 < a) = true := by simpa using h1
    go_enter Try.func7, Try.ntmps7
    go_wp2_with fail
    go_ret
    exact ⟨rfl, HL.out⟩
  · have d1 : decide (63 < a) = false := by simpa using h1
    by_cases h2 : f < 0
    · have d2 : decide (f < 0) = true := by simpa using h2
      go_enter Try.func7, Try.ntmps7
      go_wp2_with fail
      go_ret
      exact ⟨rfl, HL.out⟩
    · have d2 : decide (f < 0) = false := by simpa using h2
      have d3 : decide (1073741824 < f) = true := by simp; omega
      clear ha
      go_enter Try.func7, Try.ntmps7
      go_wp2_with fail
      go_ret
      exact ⟨rfl, HL.out⟩

theorem put_old (f a : Int) (n₀ b : Nat) (F : Nat → Prop) (m : Fd) (w : World) (h : Fed w n₀ b F m) (h1 : ¬ 63 < a) (h2 : ¬ f < 0) (h3 : ¬ 1073741824 < f) (h4 : f < (m.L.length : Int)) :
    Calls Try.prog 7 #[.pointer (some ⟨b, 0, none⟩), .int .i64 f, .int .u8 a] w fun e w' => e = .returned (.int .i64 (putE m f a)) ∧ Left n₀ b F (putM m f a) w w' := by
  have e1 : putE m f a = 10 := by unfold putE; rw [if_neg (by omega), if_pos h4]
  rw [putM_no (by rw [e1]; decide), e1]
  have HL := hid (fun q => Left.same h (show Below w.heap.size w (w.drewN q) from ⟨rfl, rfl, rfl, Nat.le_refl _, fun _ _ => rfl⟩))
  have HN := hid (next_c n₀ b F m w h)
  have d1 : decide (63 < a) = false := by simpa using h1
  have d2 : decide (f < 0) = false := by simpa using h2
  have d3 : decide (1073741824 < f) = false := by simpa using h3
  have d4 : decide (f < (m.L.length : Int)) = true := by simpa using h4
  clear h e1 h1 h2 h3
  go_enter Try.func7, Try.ntmps7
  go_wp2_with (go_at_call 13; ((with_reducible refine HN.out.mono ?_); rintro e w' ⟨rfl, q, rfl⟩))
  go_ret
  exact ⟨rfl, HL.out _⟩

theorem put_order (f a : Int) (n₀ b : Nat) (F : Nat → Prop) (m : Fd) (w : World) (h : Fed w n₀ b F m) (h1 : ¬ 63 < a) (h2 : ¬ f < 0) (h3 : ¬ 1073741824 < f) (h4 : (m.L.length : Int) < f) :
    Calls Try.prog 7 #[.pointer (some ⟨b, 0, none⟩), .int .i64 f, .int .u8 a] w fun e w' => e = .returned (.int .i64 (putE m f a)) ∧ Left n₀ b F (putM m f a) w w' := by
  have e1 : putE m f a = 11 := by unfold putE; rw [if_neg (by omega), if_neg (by omega), if_pos h4]
  rw [putM_no (by rw [e1]; decide), e1]
  have HL := hid (fun q => Left.same h (show Below w.heap.size w (w.drewN q) from ⟨rfl, rfl, rfl, Nat.le_refl _, fun _ _ => rfl⟩))
  have HN := hid (next_c n₀ b F m w h)
  have HM := hid (fun q => next_c n₀ b F m (w.drewN q) (h.drewN q))
  have d1 : decide (63 < a) = false := by simpa using h1
  have d2 : decide (f < 0) = false := by simpa using h2
  have d3 : decide (1073741824 < f) = false := by simpa using h3
  have d4 : decide (f < (m.L.length : Int)) = false := by simp; omega
  have d5 : decide ((m.L.length : Int) < f) = true := by simpa using h4
  clear h e1 h1 h2 h3
  go_enter Try.func7, Try.ntmps7
  go_wp2_with (first
    | (go_at_call 13; ((with_reducible refine HN.out.mono ?_); rintro e w' ⟨rfl, q, rfl⟩))
    | (go_at_call 13; ((with_reducible refine (HM.out _).mono ?_); rintro e w' ⟨rfl, q2, rfl⟩)))
  go_ret
  exact ⟨rfl, HL.out _⟩

theorem put_full (f a : Int) (n₀ b : Nat) (F : Nat → Prop) (m : Fd) (w : World) (h : Fed w n₀ b F m) (h1 : ¬ 63 < a) (h2 : ¬ f < 0) (h3 : ¬ 1073741824 < f) (h4 : f = (m.L.length : Int)) (h5 : 64 ≤ f - (m.first : Int)) :
    Calls Try.prog 7 #[.pointer (some ⟨b, 0, none⟩), .int .i64 f, .int .u8 a] w fun e w' => e = .returned (.int .i64 (putE m f a)) ∧ Left n₀ b F (putM m f a) w w' := by
  have e1 : putE m f a = 8 := by unfold putE; rw [if_neg (by omega), if_neg (by omega), if_neg (by omega), if_pos h5]
  rw [putM_no (by rw [e1]; decide), e1]
  have HL := hid (fun q => Left.same h (show Below w.heap.size w (w.drewN q) from ⟨rfl, rfl, rfl, Nat.le_refl _, fun _ _ => rfl⟩))
  have HN := hid (next_c n₀ b F m w h)
  have HM := hid (fun q => next_c n₀ b F m (w.drewN q) (h.drewN q))
  obtain ⟨br, bw, ao, cap, aw, capw, l, hp, _, _, ho, _⟩ := h
  have hk : (kept m).length = 64 := by have := kept_len ho; have := ho.few; omega
  have HP := hid (fun q => Ru.push_full a n₀ br 64 cap ao (kept m) (w.drewN q) (hp.drewN q).ring (by decide) hk)
  obtain ⟨_, c1, _, _⟩ := hp.cells
  have d1 : decide (63 < a) = false := by simpa using h1
  have d2 : decide (f < 0) = false := by simpa using h2
  have d3 : decide (1073741824 < f) = false := by simpa using h3
  have d4 : decide (f < (m.L.length : Int)) = false := by simp; omega
  have d5 : decide ((m.L.length : Int) < f) = false := by simp; omega
  clear e1 h1 h2 h3 h4 h5 hp hk ho
  go_enter Try.func7, Try.ntmps7
  go_wp2_with (first
    | (go_at_call 13; ((with_reducible refine HN.out.mono ?_); rintro e w' ⟨rfl, q, rfl⟩))
    | (go_at_call 13; ((with_reducible refine (HM.out _).mono ?_); rintro e w' ⟨rfl, q2, rfl⟩))
    | (go_at_call 17; ((with_reducible refine (HP.out _).mono ?_); rintro e w' ⟨rfl, q3, rfl⟩)))
  go_ret
  exact ⟨rfl, HL.out _⟩

theorem put_yes (f a : Int) (n₀ b : Nat) (F : Nat → Prop) (m : Fd) (w : World) (h : Fed w n₀ b F m) (h0 : 0 ≤ a) (h1 : ¬ 63 < a) (h2 : ¬ f < 0) (h3 : ¬ 1073741824 < f) (h4 : f = (m.L.length : Int)) (h5 : ¬ 64 ≤ f - (m.first : Int)) :
    Calls Try.prog 7 #[.pointer (some ⟨b, 0, none⟩), .int .i64 f, .int .u8 a] w fun e w' => e = .returned (.int .i64 (putE m f a)) ∧ Left n₀ b F (putM m f a) w w' := by
  have e1 : putE m f a = 0 := by unfold putE; rw [if_neg (by omega), if_neg (by omega), if_neg (by omega), if_neg h5]
  have hok := ok_put (f := f) h.ok h0
  rw [putM_yes e1] at hok
  rw [putM_yes e1, e1]
  have HN := hid (next_c n₀ b F m w h)
  have HM := hid (fun q => next_c n₀ b F m (w.drewN q) (h.drewN q))
  obtain ⟨br, bw, ao, cap, aw, capw, l, hp, hg, hl, ho, rfl⟩ := h
  have hk : (kept m).length < 64 := by have := kept_len ho; omega
  have hn : n₀ ≤ w.heap.size := by have := hp.ge; have := hp.lt; omega
  have HP := hid (fun q => Ru.push_c a n₀ br 64 cap ao (kept m) (w.drewN q) (hp.drewN q).ring (by decide) hk hn)
  obtain ⟨_, c1, _, _⟩ := hp.cells
  have H := hid hp
  have HG := hid hg
  have HL := hid hl
  have d1 : decide (63 < a) = false := by simpa using h1
  have d2 : decide (f < 0) = false := by simpa using h2
  have d3 : decide (1073741824 < f) = false := by simpa using h3
  have d4 : decide (f < (m.L.length : Int)) = false := by simp; omega
  have d5 : decide ((m.L.length : Int) < f) = false := by simp; omega
  clear e1 h1 h2 h3 h4 h5 hp hk hn hg hl
  go_enter Try.func7, Try.ntmps7
  go_wp2_with (first
    | (go_at_call 13; ((with_reducible refine HN.out.mono ?_); rintro e w' ⟨rfl, q, rfl⟩))
    | (go_at_call 13; ((with_reducible refine (HM.out _).mono ?_); rintro e w' ⟨rfl, q2, rfl⟩))
    | (go_at_call 17; ((with_reducible refine (HP.out _).mono ?_); rintro e w1 ⟨rfl, ao', cap', hr1, hn1, hk1⟩; obtain ⟨hp1, hk2⟩ := (H.out.drewN _).setR hr1 hk1; obtain ⟨_, _, c2, _⟩ := hp1.cells; have f2 := hp1.frozen 2; have H1 := hid hp1; clear hp1)))
  go_ret
  obtain ⟨hp2, hk3⟩ := H1.out.setG a
  have hk4 : Keeps (FFoot b br bw ao aw) w (w1.setCell ⟨b, 2, none⟩ (.int .u8 a)) :=
    ((Keeps.refl (FFoot b br bw ao aw) w).drew _).trans (hk2.trans (hk3.mono (fun i _ hi => hi)) (fun i hi hf => (foot_near hn1 (Near.refl _ _) hf).resolve_right (by simp; simp at hi; omega))) (fun _ _ e => e)
  refine ⟨rfl, Left.mk' (m' := { m with L := m.L ++ [a] }) (cap := cap') (capw := capw) ?_ HG.out HL.out hok hn1 (Near.refl _ _) hk4⟩
  rw [kept_put ho, gs_put]
  exact hp2

theorem put_c (f a : Int) (n₀ b : Nat) (F : Nat → Prop) (m : Fd) (w : World) (h : Fed w n₀ b F m) (h0 : 0 ≤ a) :
    Calls Try.prog 7 #[.pointer (some ⟨b, 0, none⟩), .int .i64 f, .int .u8 a] w fun e w' => e = .returned (.int .i64 (putE m f a)) ∧ Left n₀ b F (putM m f a) w w' := by
  by_cases h1 : 63 < a ∨ f < 0 ∨ 1073741824 < f
  · exact put_arg f a n₀ b F m w h h1
  · have g1 : ¬ 63 < a := by omega
    have g2 : ¬ f < 0 := by omega
    have g3 : ¬ 1073741824 < f := by omega
    by_cases h2 : f < (m.L.length : Int)
    · exact put_old f a n₀ b F m w h g1 g2 g3 h2
    · by_cases h3 : (m.L.length : Int) < f
      · exact put_order f a n₀ b F m w h g1 g2 g3 h3
      · by_cases h4 : 64 ≤ f - (m.first : Int)
        · exact put_full f a n₀ b F m w h g1 g2 g3 (by omega) h4
        · exact put_yes f a n₀ b F m w h h0 g1 g2 g3 (by omega) h4

end Go.Proofs.Ytkeedegbfpenjaa.Fd
