/- What Right of layer 7 (wire) returns. -/
import Derived.Test.YtnjmmmclelmeiaaWrRightA
namespace Go.Proofs.Ytnjmmmclelmeiaa.Wr
open Go.RowKit Go.Proofs.Ytnjmmmclelmeiaa.Fx Go.Proofs.Ytnjmmmclelmeiaa.Pk

set_option maxHeartbeats 2000000 in
theorem right_c (v : Value) (m : Dg) (w : World) (h : Holds w v m) :
    Calls Try.prog 9 #[v] w fun e w' => e = .returned (.bool (rightB m)) ∧ Below w.heap.size w w' := by
  obtain ⟨ao, L, cap, rfl, hr, hi⟩ := h
  have hL : m.inputs.length = L := by obtain ⟨_, _, _, e, h1, _⟩ := hr; cases e; exact h1
  by_cases hk : 1 ≤ m.kind ∧ m.kind ≤ 7
  · have hp := right_parts m hk
    have hst := stray_is m.kind hk ((m.nonce : Int) != 0) ((m.serial : Int) != 0) ((m.ack : Int) != 0) (decide (0 < m.inputs.length)) ((m.sum : Int) != 0) (m.lead != 0)
    have HF := hid (fun W => filled_d m ao L cap hL W)
    have HK := hid (fun W => isKind_c m.kind W)
    rw [show decide (1 ≤ m.kind ∧ m.kind ≤ 7) = true by simpa using hk] at HK
    have HN := hid (fun W => named_c m.kind W)
    have HS := hid (fun W (hb : Below w.heap.size w W) => fits_c (.slice ao L cap) m.inputs W (hr.below hb))
    have HLd := hid (fun W => isLead_c m.lead W)
    generalize fillB ((m.nonce : Int) != 0) ((m.serial : Int) != 0) ((m.ack : Int) != 0) (decide (0 < m.inputs.length)) ((m.sum : Int) != 0) (m.lead != 0) = F at HF hst
    generalize namedI m.kind = N at HN hst
    change _ = strayD m at hst
    cases hs : strayD m with
    | true =>
      rw [hs] at hst hp
      rw [hp]
      simp only [Bool.not_true, Bool.false_and]
      clear hp hs HS HLd
      go_enter Try.func9, Try.ntmps9
      go_wp2_with fail
      go_region_with (first
        | (go_at_call 24; refine (HK.out _).mono ?_; rintro e w' ⟨rfl, rfl⟩)
        | (go_at_call 25; refine (HF.out _).mono ?_; rintro e w' ⟨rfl, rfl⟩)
        | (go_at_call 17; refine (HN.out _).mono ?_; rintro e w' ⟨rfl, rfl⟩))
      all_goals
        go_wp2_with fail
        go_ret
        refine ⟨rfl, ?_⟩
        repeat (first | exact Below.refl _ _ | apply bdrew | apply bdrew1 | apply ball)
    | false =>
      rw [hs] at hst hp
      rw [hp]
      simp only [Bool.not_false, Bool.true_and]
      clear hp hs
      by_cases h3 : m.kind = 3
      · by_cases h0 : L = 0
        · rw [hL, show decide (m.kind = 3) = true by simpa using h3, show decide (L = 0) = true by simpa using h0]
          simp only [Bool.and_true, Bool.not_true, Bool.false_and]
          have g3 : (m.kind == 3) = true := by simpa using h3
          have g0 : ((L : Int) == 0) = true := by simp; omega
          clear h3 h0 HS HLd hL hk
          go_enter Try.func9, Try.ntmps9
          go_wp2_with fail
          go_region_with (first
            | (go_at_call 24; refine (HK.out _).mono ?_; rintro e w' ⟨rfl, rfl⟩)
            | (go_at_call 25; refine (HF.out _).mono ?_; rintro e w' ⟨rfl, rfl⟩)
            | (go_at_call 17; refine (HN.out _).mono ?_; rintro e w' ⟨rfl, rfl⟩))
          all_goals
            go_wp2_with fail
            go_ret
            refine ⟨rfl, ?_⟩
            repeat (first | exact Below.refl _ _ | apply bdrew | apply bdrew1 | apply ball)
        · rw [hL, show decide (m.kind = 3) = true by simpa using h3, show decide (L = 0) = false by simpa using h0]
          simp only [Bool.and_false, Bool.not_false, Bool.true_and]
          have g3 : (m.kind == 3) = true := by simpa using h3
          have g0 : ((L : Int) == 0) = false := by simp; omega
          clear h3 h0 hL hk
          cases hf : fitB m.inputs with
          | true =>
            rw [hf] at HS
            simp only [Bool.true_and]
            generalize decide (-1000 ≤ m.lead ∧ m.lead ≤ 1000) = ld at HLd
            go_enter Try.func9, Try.ntmps9
            go_wp2_with fail
            go_region_with (first
              | (go_at_call 24; refine (HK.out _).mono ?_; rintro e w' ⟨rfl, rfl⟩)
              | (go_at_call 25; refine (HF.out _).mono ?_; rintro e w' ⟨rfl, rfl⟩)
              | (go_at_call 17; refine (HN.out _).mono ?_; rintro e w' ⟨rfl, rfl⟩))
            all_goals
              go_wp2_with (first
                | (go_at_call 26; refine (HS.out _ (by repeat (first | exact Below.refl _ _ | apply bdrew | apply bdrew1 | apply ball))).mono ?_; rintro e w' ⟨rfl, rfl⟩)
                | (go_at_call 27; refine (HLd.out _).mono ?_; rintro e w' ⟨rfl, rfl⟩))
              go_ret
              refine ⟨rfl, ?_⟩
              repeat (first | exact Below.refl _ _ | apply bdrew | apply bdrew1 | apply ball)
          | false =>
            rw [hf] at HS
            simp only [Bool.false_and]
            clear HLd
            go_enter Try.func9, Try.ntmps9
            go_wp2_with fail
            go_region_with (first
              | (go_at_call 24; refine (HK.out _).mono ?_; rintro e w' ⟨rfl, rfl⟩)
              | (go_at_call 25; refine (HF.out _).mono ?_; rintro e w' ⟨rfl, rfl⟩)
              | (go_at_call 17; refine (HN.out _).mono ?_; rintro e w' ⟨rfl, rfl⟩))
            all_goals
              go_wp2_with (go_at_call 26; refine (HS.out _ (by repeat (first | exact Below.refl _ _ | apply bdrew | apply bdrew1 | apply ball))).mono ?_; rintro e w' ⟨rfl, rfl⟩)
              go_ret
              refine ⟨rfl, ?_⟩
              repeat (first | exact Below.refl _ _ | apply bdrew | apply bdrew1 | apply ball)
      · rw [show decide (m.kind = 3) = false by simpa using h3]
        simp only [Bool.false_and, Bool.not_false, Bool.true_and]
        have g3 : (m.kind == 3) = false := by simpa using h3
        clear h3 hL hk
        cases hf : fitB m.inputs with
        | true =>
          rw [hf] at HS
          simp only [Bool.true_and]
          generalize decide (-1000 ≤ m.lead ∧ m.lead ≤ 1000) = ld at HLd
          go_enter Try.func9, Try.ntmps9
          go_wp2_with fail
          go_region_with (first
            | (go_at_call 24; refine (HK.out _).mono ?_; rintro e w' ⟨rfl, rfl⟩)
            | (go_at_call 25; refine (HF.out _).mono ?_; rintro e w' ⟨rfl, rfl⟩)
            | (go_at_call 17; refine (HN.out _).mono ?_; rintro e w' ⟨rfl, rfl⟩))
          all_goals
            go_wp2_with (first
              | (go_at_call 26; refine (HS.out _ (by repeat (first | exact Below.refl _ _ | apply bdrew | apply bdrew1 | apply ball))).mono ?_; rintro e w' ⟨rfl, rfl⟩)
              | (go_at_call 27; refine (HLd.out _).mono ?_; rintro e w' ⟨rfl, rfl⟩))
            go_ret
            refine ⟨rfl, ?_⟩
            repeat (first | exact Below.refl _ _ | apply bdrew | apply bdrew1 | apply ball)
        | false =>
          rw [hf] at HS
          simp only [Bool.false_and]
          clear HLd
          go_enter Try.func9, Try.ntmps9
          go_wp2_with fail
          go_region_with (first
            | (go_at_call 24; refine (HK.out _).mono ?_; rintro e w' ⟨rfl, rfl⟩)
            | (go_at_call 25; refine (HF.out _).mono ?_; rintro e w' ⟨rfl, rfl⟩)
            | (go_at_call 17; refine (HN.out _).mono ?_; rintro e w' ⟨rfl, rfl⟩))
          all_goals
            go_wp2_with (go_at_call 26; refine (HS.out _ (by repeat (first | exact Below.refl _ _ | apply bdrew | apply bdrew1 | apply ball))).mono ?_; rintro e w' ⟨rfl, rfl⟩)
            go_ret
            refine ⟨rfl, ?_⟩
            repeat (first | exact Below.refl _ _ | apply bdrew | apply bdrew1 | apply ball)
  · rw [right_no (fun hR => hk hR.1)]
    exact right_kind m ao L cap w hk
end Go.Proofs.Ytnjmmmclelmeiaa.Wr
