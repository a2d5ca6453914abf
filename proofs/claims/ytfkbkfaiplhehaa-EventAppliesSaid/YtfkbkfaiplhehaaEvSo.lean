/- What Sort returns (layer 11, event). -/
import Derived.Test.YtfkbkfaiplhehaaEvSort
namespace Go.Proofs.Ytfkbkfaiplhehaa.Ev
open Go.RowKit
set_option linter.unusedVariables false

/-- what Sort makes of some events: the events, and the error. -/
def sortR (l : List Ev) : List Ev × Int :=
  if l.all evB = true then (if 64 < l.length then ([], 5) else if up (keys (sortL l)) then (sortL l, 0) else ([], 7)) else ([], 1)
theorem ris_keys {l : List Ev} (h : l.all evB = true) : risB (keys l) = decide (up (keys l)) := by
  unfold risB
  rw [all_keys h]
  rfl

set_option maxRecDepth 100000 in
theorem sort_c (v : Value) (l : List Ev) (w : World) (h : Evs w v l) :
    Calls Try.prog 10 #[v] w fun e w' => ∃ v', e = .returned (.tuple #[v', .int .i64 (sortR l).2]) ∧ Evs w' v' (sortR l).1 ∧ Below w.heap.size w w' := by
  have HV := hid h
  have HR := hid (allright_c v l w h)
  obtain ⟨ao, L, cap, rfl, hL, hc, hm, ht⟩ := h
  cases hA : l.all evB
  case false =>
    rw [show sortR l = ([], 1) by simp [sortR, hA]]
    rw [hA] at HR
    clear hL ht hA
    go_enter Try.func10, Try.ntmps10
    go_wp2_with (go_at_call 30; ((with_reducible refine HR.out.mono ?_); rintro e w1 ⟨rfl, g1⟩))
    go_ret2
    exact ⟨_, rfl, Sl.nil _ _ _, g1.below⟩
  rw [hA] at HR
  by_cases hlen : 64 < L
  · rw [show sortR l = ([], 5) by simp [sortR, hA, hL, hlen]]
    have d1 : decide ((64 : Int) < (L : Int)) = true := by simp; omega
    have d1' : (64 : Int) < (L : Int) := by omega
    clear hL ht hA
    go_enter Try.func10, Try.ntmps10
    go_wp2_with (go_at_call 30; ((with_reducible refine HR.out.mono ?_); rintro e w1 ⟨rfl, g1⟩))
    go_ret2
    exact ⟨_, rfl, Sl.nil _ _ _, g1.below⟩
  have hl4 : l.length ≤ 4096 := by omega
  have d1 : decide ((64 : Int) < (L : Int)) = false := by simp; omega
  have d1' : ¬ (64 : Int) < (L : Int) := by omega
  have HS : Hid (sortR l = if up (keys (sortL l)) then (sortL l, 0) else ([], 7)) := hid (by simp [sortR, hA, hL, hlen])
  have HL4 := hid hl4
  have HA := hid hA
  clear hL ht hA hl4
  have K1 : Hid (∀ (l' : List Ev), l'.Perm l → wk l' → risB (keys l') = decide (up (keys (sortL l))) ∧ (up (keys (sortL l)) → l' = sortL l)) := hid (fun l' hp hw => by
    constructor
    · rw [ris_keys (by rw [all_perm hp]; exact HA.out)]
      congr 1
      exact propext (wk_iff (hp.trans (sort_perm l).symm) hw (sort_wk l))
    · intro hu
      exact wk_eq (hp.trans (sort_perm l).symm) hw hu)
  by_cases hu : up (keys (sortL l))
  · rw [HS.out, if_pos hu]
    go_enter Try.func10, Try.ntmps10
    go_wp2_with (first
      | (go_at_call 30; ((with_reducible refine HR.out.mono ?_); rintro e w1 ⟨rfl, g1⟩))
      | (go_at_call 31; ((with_reducible refine (clone_c _ l _ (HV.out.below g1.below) HL4.out).mono ?_); rintro e w2 ⟨v2, rfl, ho2, g2⟩))
      | (go_at_call 32; ((with_reducible refine (sortfunc_c v2 l _ _ ho2 g2.size HL4.out).mono ?_); rintro e w3 ⟨rfl, l', hp, hwk, hv3, g3⟩; obtain ⟨k1, k2⟩ := K1.out l' hp hwk; have k3 := k2 hu; rw [decide_eq_true hu] at k1))
      | (go_at_call 35; ((with_reducible refine (keysof_c _ _ _ hv3).mono ?_); rintro e w4 ⟨fv, rfl, hsv, g4⟩))
      | (go_at_call 34; ((with_reducible refine (kordered_c fv (keys l') _ _ hsv g4.below.size).mono ?_); rintro e w5 ⟨rfl, g5⟩; rw [k1])))
    go_ret2
    refine ⟨_, rfl, ?_, ?_⟩
    · rw [← k3]
      exact hv3.below (bt g4.below g5)
    · exact bt g1.below (bt (g2.trans g3) (bt g4.below g5))
  · rw [HS.out, if_neg hu]
    go_enter Try.func10, Try.ntmps10
    go_wp2_with (first
      | (go_at_call 30; ((with_reducible refine HR.out.mono ?_); rintro e w1 ⟨rfl, g1⟩))
      | (go_at_call 31; ((with_reducible refine (clone_c _ l _ (HV.out.below g1.below) HL4.out).mono ?_); rintro e w2 ⟨v2, rfl, ho2, g2⟩))
      | (go_at_call 32; ((with_reducible refine (sortfunc_c v2 l _ _ ho2 g2.size HL4.out).mono ?_); rintro e w3 ⟨rfl, l', hp, hwk, hv3, g3⟩; obtain ⟨k1, k2⟩ := K1.out l' hp hwk; clear k2; rw [decide_eq_false hu] at k1))
      | (go_at_call 35; ((with_reducible refine (keysof_c _ _ _ hv3).mono ?_); rintro e w4 ⟨fv, rfl, hsv, g4⟩))
      | (go_at_call 34; ((with_reducible refine (kordered_c fv (keys l') _ _ hsv g4.below.size).mono ?_); rintro e w5 ⟨rfl, g5⟩; rw [k1])))
    go_ret2
    refine ⟨_, rfl, Sl.nil _ _ _, ?_⟩
    exact bt g1.below (bt (g2.trans g3) (bt g4.below g5))

end Go.Proofs.Ytfkbkfaiplhehaa.Ev
