/- What the document's Sort returns (layer 11, event). -/
import Derived.Test.YtfkbkfaiplhehaaEvPut
namespace Go.Proofs.Ytfkbkfaiplhehaa.Ev
open Go.RowKit
set_option linter.unusedVariables false

theorem sort_take {l : List Ev} {k : Nat} {x : Ev} (hx : l[k]? = some x) : sortL (l.take (k + 1)) = putL x (sortL (l.take k)) := by
  rw [List.take_add_one, hx]
  simp [sortL, List.foldl_append]
theorem sort_len (l : List Ev) : (sortL l).length = l.length := (sort_perm l).length_eq
theorem ord_sort {l : List Ev} (hA : l.all evB = true) (hl : l.length ≤ 64) : ordB (sortL l) = decide (up (keys (sortL l))) := by
  unfold ordB
  rw [all_perm (sort_perm l), hA, sort_len]
  simp [hl]

set_option maxRecDepth 100000 in
set_option maxHeartbeats 1000000 in
theorem rsort_c (v : Value) (l : List Ev) (w : World) (h : Evs w v l) :
    Calls Try.prog 11 #[v] w fun e w' => ∃ v', e = .returned (.tuple #[v', .int .i64 (sortR l).2]) ∧ Evs w' v' (sortR l).1 ∧ Below w.heap.size w w' := by
  obtain ⟨ao, L, cap, rfl, hL, hc, hm, ht⟩ := h
  have HL := hid hL
  have HT := hid ht
  have HO0 := hid (World.ownsRow_made (e := 31) (size := 9) w #[] 0 (Nat.le_refl _) (Nat.zero_le _) (by simp))
  have HW0 := hid (gal (gr w) (.cells #[] 31))
  clear hL ht
  go_enter Try.func11, Try.ntmps11
  go_wp2_with fail
  obtain ⟨w0, hw0⟩ : ∃ w0, w0 = w.alloc (.cells #[] 31) := ⟨_, rfl⟩
  rw [← hw0] at HO0 HW0 ⊢
  clear hw0
  go_loopg [5] L (fun gk i wr => ∃ k : Nat, gk + k = L ∧ i = .int .i64 k ∧ Gr w0 wr ∧ Hid ((l.take k).all evB = true))
  case atStart => exact ⟨0, by omega, rfl, gr _, hid rfl⟩
  case round =>
    obtain ⟨k, hk, rfl, hB, hr⟩ := hrel
    by_cases hlt : k < L
    · obtain ⟨x, hx⟩ := get_lt HL.out hlt
      obtain ⟨b, o, rfl, hb, c0, c1, c2, c3, c4, c5, c6, c7, c8⟩ := (HT.out.below (gt HW0.out hB).below).ev hx
      have hk1 : (k : Int) < (L : Int) := by omega
      have hk0 : (0 : Int) ≤ (k : Int) := by omega
      cases hE : evB x
      · have HN : Hid (sortR l = ([], 1)) := hid (by unfold sortR; rw [all_not hx hE]; simp)
        clear hx
        go_wp2_with (go_at_call 13; ((with_reducible refine (rright_c x _).mono ?_); rintro e w' ⟨rfl, hb'⟩; rw [hE]))
        go_ret2
        rw [HN.out]
        exact ⟨_, rfl, Sl.nil _ _ _, (gt HW0.out (gt hB hb')).below⟩
      · have HN := hid (all_take hx hr.out hE)
        clear hx
        go_wp2_with (go_at_call 13; ((with_reducible refine (rright_c x _).mono ?_); rintro e w' ⟨rfl, hb'⟩; rw [hE]))
        go_roundg (gk - 1)
        case measure => omega
        case rel => exact ⟨k + 1, by omega, by go_num, gt hB hb', HN⟩
    · have HA := hid (all_end HL.out hlt hr.out)
      have hd0 : decide ((k : Int) < (L : Int)) = false := by simp; omega
      clear hr
      by_cases hlen : 64 < L
      · have HN : Hid (sortR l = ([], 5)) := hid (by unfold sortR; rw [HA.out, HL.out]; simp [hlen])
        have d1 : (64 : Int) < (L : Int) := by omega
        go_wp2_with fail
        go_ret2
        rw [HN.out]
        exact ⟨_, rfl, Sl.nil _ _ _, (gt HW0.out hB).below⟩
      · have d1 : ¬ (64 : Int) < (L : Int) := by omega
        have d1' : decide ((64 : Int) < (L : Int)) = false := by simp; omega
        have HN : Hid (sortR l = if up (keys (sortL l)) then (sortL l, 0) else ([], 7)) := hid (by unfold sortR; rw [HA.out, HL.out]; simp [hlen])
        have HOO : Hid (ordB (sortL l) = decide (up (keys (sortL l)))) := hid (ord_sort HA.out (by have := HL.out; omega))
        have HG := hid (gt HW0.out hB).below
        have HO1 := hid (own_gr HO0.out hB)
        clear hB
        go_wp2_with fail
        go_loopg [4, 6] L (fun gk u i wr2 => ∃ k : Nat, gk + k = L ∧ i = .int .i64 k ∧ Below w.heap.size w wr2 ∧ wr2.ownsRow w.heap.size 31 9 u (sortL (l.take k)).length (flat ecs (sortL (l.take k))))
        case atStart => exact ⟨0, by omega, rfl, HG.out, HO1.out⟩
        case round =>
          obtain ⟨k2, hk2, rfl, hB2, ho2⟩ := hrel
          have hsl := sort_len (l.take k2)
          have hkl : (l.take k2).length ≤ k2 := by simp; omega
          have HO2 := hid (owns_sl (enc := ecs) (k := 9) (fun _ => rfl) ho2)
          clear ho2
          by_cases hlt2 : k2 < L
          · obtain ⟨x, hx⟩ := get_lt HL.out hlt2
            obtain ⟨b, o, rfl, hb, c0, c1, c2, c3, c4, c5, c6, c7, c8⟩ := (HT.out.below hB2).ev hx
            have hk1 : (k2 : Int) < (L : Int) := by omega
            have hk0 : (0 : Int) ≤ (k2 : Int) := by omega
            have HS := hid (sort_take hx)
            clear hx
            go_wp2_with (go_at_call 36; ((with_reducible refine (rput_c _ _ x _ HO2.out (by omega)).mono ?_); rintro e w' ⟨v', rfl, ho', hb'⟩))
            go_roundg (gk - 1)
            case measure => omega
            case rel => exact ⟨k2 + 1, by omega, by go_num, bt hB2 hb', by rw [HS.out]; exact owns_base ho' hB2.size⟩
          · have htl : l.take k2 = l := List.take_of_length_le (by have := HL.out; omega)
            rw [htl] at HO2
            have hd2 : decide ((k2 : Int) < (L : Int)) = false := by simp; omega
            clear htl hsl hkl
            by_cases hu : up (keys (sortL l))
            · rw [decide_eq_true hu] at HOO
              rw [if_pos hu] at HN
              clear hu
              go_wp2_with (go_at_call 17; ((with_reducible refine (rordered_c _ _ _ HO2.out).mono ?_); rintro e w' ⟨rfl, hb'⟩; rw [HOO.out]))
              go_ret2
              rw [HN.out]
              exact ⟨_, rfl, HO2.out.below hb'.below, bt hB2 hb'.below⟩
            · rw [decide_eq_false hu] at HOO
              rw [if_neg hu] at HN
              clear hu
              go_wp2_with (go_at_call 17; ((with_reducible refine (rordered_c _ _ _ HO2.out).mono ?_); rintro e w' ⟨rfl, hb'⟩; rw [HOO.out]))
              go_ret2
              rw [HN.out]
              exact ⟨_, rfl, Sl.nil _ _ _, bt hB2 hb'.below⟩

end Go.Proofs.Ytfkbkfaiplhehaa.Ev
