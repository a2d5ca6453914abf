/- What Cut and New of layer 8 (cable) return, and what they leave of the memory. -/
import Derived.Test.YtfifoikphhjomaaCbSpoil
import Derived.Deep.LoopGhost
namespace Go.Proofs.Ytfifoikphhjomaa.Cb
open Go.RowKit Go.Proofs.Ytfifoikphhjomaa.Rg
set_option linter.unusedVariables false

theorem Left.congr {n₀ size b : Nat} {bs : Nat → Nat} {aos : Nat → Option Addr} {st st' : St} {w w' : World} (h : Left n₀ size b bs aos st w w') (hL : ∀ t, t < 2 → st.L t = st'.L t) (hl : st.lost = st'.lost) : Left n₀ size b bs aos st' w w' := by
  obtain ⟨⟨aos', caps', hc, hn⟩, hk⟩ := h
  exact ⟨⟨aos', caps', hc.congr hL hl, hn⟩, hk⟩

/-- how many went from the ends below k, and what is left then. -/
def goneN (st : St) (k : Nat) : Nat := (if 0 < k then (st.L 0).length else 0) + (if 1 < k then (st.L 1).length else 0)
def goneSt (st : St) (k j : Nat) : St := ⟨fun s => if s < k then [] else if s = k then (st.L s).drop j else st.L s, st.lost + goneN st k + j⟩
theorem gone_zero (st : St) : goneN st 0 = 0 := rfl
theorem gone_next (st : St) {k : Nat} (h : k < 2) : goneN st (k + 1) = goneN st k + (st.L k).length := by
  rcases k with _ | _ | k
  · simp [goneN]
  · simp [goneN]
  · omega
theorem gone_two (st : St) : goneN st 2 = (st.L 0).length + (st.L 1).length := by simp [goneN]
theorem gone_le (st : St) (k : Nat) (h : ∀ t, t < 2 → (st.L t).length ≤ 4096) : goneN st k ≤ 8192 := by
  have h0 := h 0 (by omega)
  have h1 := h 1 (by omega)
  unfold goneN
  split <;> split <;> omega
theorem goneSt_at (st : St) (k j : Nat) : (goneSt st k j).L k = (st.L k).drop j := by simp [goneSt]
theorem goneSt_len (st : St) (k j : Nat) (h : ∀ t, t < 2 → (st.L t).length ≤ 4096) : ∀ t, t < 2 → ((goneSt st k j).L t).length ≤ 4096 := by
  intro t ht
  have := h t ht
  unfold goneSt
  simp only
  split
  · simp
  · split
    · simp; omega
    · exact this
theorem offL_zero {l : List ByteArray} (h : 0 < l.length) : offL l 0 = l.drop 1 := by
  have := offL_in (l := l) (k := 0) h
  simpa using this
/-- one more of this end went. -/
theorem gone_drop (st : St) {k j : Nat} (hk : k < 2) (hj : j < (st.L k).length) : inB (flyL (goneSt st k j).L (k : Int)).length 0 = true ∧ (∀ t, t < 2 → (dropSt (goneSt st k j) (k : Int) 0).L t = (goneSt st k (j + 1)).L t) ∧ (dropSt (goneSt st k j) (k : Int) 0).lost = (goneSt st k (j + 1)).lost := by
  have hl : 0 < ((st.L k).drop j).length := by rw [List.length_drop]; omega
  have hB : inB (flyL (goneSt st k j).L (k : Int)).length 0 = true := by
    rw [fly_in _ hk, goneSt_at]
    exact in_in hl
  refine ⟨hB, ?_, ?_⟩
  · intro t ht
    rw [dropSt, if_pos hB]
    show takeF (goneSt st k j).L (k : Int) 0 t = _
    rw [takeF_in _ hk]
    by_cases e : t = k
    · subst e
      rw [upd_same, goneSt_at, goneSt_at, offL_zero hl, List.drop_drop]
    · rw [upd_other _ _ _ _ e]
      simp [goneSt, e]
  · rw [dropSt, if_pos hB]
    simp [goneSt]; omega
/-- none of this end is left. -/
theorem gone_last (st : St) {k j : Nat} (hk : k < 2) (hj : ¬ j < (st.L k).length) : inB (flyL (goneSt st k j).L (k : Int)).length 0 = false ∧ dropSt (goneSt st k j) (k : Int) 0 = goneSt st k j := by
  have hB : inB (flyL (goneSt st k j).L (k : Int)).length 0 = false := by
    rw [fly_in _ hk, goneSt_at, List.drop_of_length_le (by omega)]
    exact in_zero 0
  exact ⟨hB, by rw [dropSt, if_neg (by rw [hB]; simp)]⟩
theorem gone_turn (st : St) {k j : Nat} (hk : k < 2) (hj : j = (st.L k).length) : (∀ t, t < 2 → (goneSt st k j).L t = (goneSt st (k + 1) 0).L t) ∧ (goneSt st k j).lost = (goneSt st (k + 1) 0).lost := by
  refine ⟨?_, ?_⟩
  · intro t ht
    unfold goneSt
    simp only
    by_cases e : t = k
    · subst e
      rw [if_neg (by omega), if_pos rfl, if_pos (by omega), List.drop_of_length_le (by omega)]
    · by_cases e2 : t < k
      · rw [if_pos e2, if_pos (by omega)]
      · rw [if_neg e2, if_neg e, if_neg (by omega)]
        split
        · simp
        · rfl
  · show st.lost + goneN st k + j = st.lost + goneN st (k + 1) + 0
    rw [gone_next st hk]; omega

set_option maxRecDepth 100000 in
set_option maxHeartbeats 1000000 in
theorem ccut_c (w : World) (n₀ size b : Nat) (bs : Nat → Nat) (aos : Nat → Option Addr) (caps : Nat → Nat) (st : St) (h : Cab w n₀ size b bs aos caps st) (hL : ∀ t, t < 2 → (st.L t).length ≤ 4096) (hl : st.lost ≤ 100000) :
    Calls Try.prog 15 #[.pointer (some ⟨b, 0, none⟩)] w fun e w' => e = .returned (.int .i64 (((st.L 0).length + (st.L 1).length : Nat) : Int)) ∧ Left n₀ size b bs aos (cutSt st) w w' := by
  have h0 : Left n₀ size b bs aos (goneSt st 0 0) w w := (Left.same h (Below.refl _ _)).congr (fun t _ => by by_cases e : t = 0 <;> simp [goneSt, e]) (by simp [goneSt, goneN])
  clear h
  go_enter Try.func15, Try.ntmps15
  go_wp2_with fail
  go_loopg [3, 5] 2 (fun gk s3 s5 wr => ∃ k : Nat, gk + k = 2 ∧ s3 = .int .i64 (goneN st k : Int) ∧ s5 = .int .i64 k ∧ Left n₀ size b bs aos (goneSt st k 0) w wr)
  case atStart => exact ⟨0, rfl, rfl, rfl, h0⟩
  case round =>
    obtain ⟨k, hk, rfl, rfl, hI⟩ := hrel
    have hg := gone_le st k hL
    clear h0
    by_cases hk2 : k < 2
    · have hlk := hL k hk2
      have d6 : decide ((k : Int) < 2) = true := by simp; omega
      go_wp2_with fail
      go_loopg [3] (st.L k).length (fun gj s3 wx => ∃ j : Nat, gj + j = (st.L k).length ∧ s3 = .int .i64 ((goneN st k + j : Nat) : Int) ∧ Left n₀ size b bs aos (goneSt st k j) w wx)
      case atStart => exact ⟨0, rfl, rfl, hI⟩
      case round =>
        obtain ⟨j, hj, rfl, ⟨aos1, caps1, h1, hn1⟩, hk1⟩ := hrel
        have Hn1 := hid hn1
        have Hk1 := hid hk1
        have hlost : (goneSt st k j).lost ≤ 1000000 := by show st.lost + goneN st k + j ≤ _; omega
        by_cases hjl : j < (st.L k).length
        · obtain ⟨e1, e2, e3⟩ := gone_drop st hk2 hjl
          go_wp2_with fail
          refine (cdrop_c k 0 _ n₀ size b bs aos1 caps1 _ h1 (goneSt_len st k j hL) hlost).mono ?_
          rintro e w2 ⟨rfl, hL2⟩
          rw [e1]
          have hL3 := Left.trans Hn1.out Hk1.out (hL2.congr e2 e3)
          clear e1 e2 e3 h1 hL2
          go_wp2_with fail
          go_roundg (gk - 1)
          case measure => omega
          case rel => exact ⟨j + 1, by omega, by go_num, hL3⟩
        · obtain ⟨e1, e2⟩ := gone_last st hk2 hjl
          obtain ⟨e3, e4⟩ := gone_turn st (j := j) hk2 (by omega)
          have hgn := hid (gone_next st hk2)
          go_wp2_with fail
          refine (cdrop_c k 0 _ n₀ size b bs aos1 caps1 _ h1 (goneSt_len st k j hL) hlost).mono ?_
          rintro e w2 ⟨rfl, hL2⟩
          rw [e1]
          rw [e2] at hL2
          have hL3 := Left.trans Hn1.out Hk1.out (hL2.congr e3 e4)
          clear e1 e2 e3 e4 h1 hL2
          go_wp2_with fail
          go_roundg (1 - k)
          case measure => omega
          case rel =>
            refine ⟨k + 1, by omega, ?_, by go_num, hL3⟩
            have hq := hgn.out
            refine congrArg (Value.int .i64) ?_
            omega
    · have e : k = 2 := by omega
      subst e
      go_wp2_with fail
      go_ret
      refine ⟨by rw [← gone_two]; rfl, hI.congr (fun t ht => by simp [goneSt, cutSt, ht]) ?_⟩
      show st.lost + goneN st 2 + 0 = _
      rw [gone_two]; rfl

end Go.Proofs.Ytfifoikphhjomaa.Cb
