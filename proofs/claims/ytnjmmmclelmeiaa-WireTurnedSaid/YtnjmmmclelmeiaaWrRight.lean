/- What Right of layer 7 (wire) returns. -/
import Derived.Test.YtnjmmmclelmeiaaWrRightA
import Derived.Test.YtnjmmmclelmeiaaWrBox
import Derived.Deep.RegionHeld3
namespace Go.Proofs.Ytnjmmmclelmeiaa.Wr
open Go.RowKit Go.Proofs.Ytnjmmmclelmeiaa.Fx Go.Proofs.Ytnjmmmclelmeiaa.Pk

/-- what is kept of a datagram while new memory is made. -/
theorem keepD {y W : World} {b : Nat} {m : Dg} {v : Value} (h : Box y b m v) (hb : Below y.heap.size y W) : Below y.heap.size y W ∧ W.cell? ⟨b, 0, none⟩ = some (.int .i64 m.kind) ∧ W.cell? ⟨b, 1, none⟩ = some (.int .u32 (m.nonce : Int)) ∧ W.cell? ⟨b, 2, none⟩ = some (.int .u16 (m.serial : Int)) ∧ W.cell? ⟨b, 3, none⟩ = some (.int .u16 (m.ack : Int)) ∧ W.cell? ⟨b, 4, none⟩ = some v ∧ W.cell? ⟨b, 5, none⟩ = some (.int .u32 (m.sum : Int)) ∧ W.cell? ⟨b, 6, none⟩ = some (.int .i64 m.lead) := ⟨hb, (h.below hb).cells⟩
theorem filled_e (m : Dg) (ao : Option Addr) (L cap : Nat) (hL : m.inputs.length = L) (w : World) :
    Calls Try.prog 25 #[.agg #[.int .i64 m.kind, .int .u32 (m.nonce : Int), .int .u16 (m.serial : Int), .int .u16 (m.ack : Int), .slice ao L cap, .int .u32 (m.sum : Int), .int .i64 m.lead]] w fun r w' =>
      r = .returned (.int .u64 (fillB ((m.nonce : Int) != 0) ((m.serial : Int) != 0) ((m.ack : Int) != 0) (decide (0 < m.inputs.length)) ((m.sum : Int) != 0) (m.lead != 0))) ∧ Below w.heap.size w w' :=
  (filled_d m ao L cap hL w).mono fun _ _ ⟨he, hw⟩ => ⟨he, by rw [hw]; exact box_below w _⟩

set_option maxHeartbeats 2000000 in
theorem right_c (v : Value) (m : Dg) (w : World) (h : Holds w v m) :
    Calls Try.prog 9 #[v] w fun e w' => e = .returned (.bool (rightB m)) ∧ Below w.heap.size w w' := by
  obtain ⟨ao, L, cap, rfl, hr, hi⟩ := h
  have hL : m.inputs.length = L := by obtain ⟨_, _, _, e, h1, _⟩ := hr; cases e; exact h1
  by_cases hk : 1 ≤ m.kind ∧ m.kind ≤ 7
  · have hp := right_parts m hk
    have hst := stray_is m.kind hk ((m.nonce : Int) != 0) ((m.serial : Int) != 0) ((m.ack : Int) != 0) (decide (0 < m.inputs.length)) ((m.sum : Int) != 0) (m.lead != 0)
    have HF := hid (fun W => filled_e m ao L cap hL W)
    have HK := hid (fun W => isKind_c m.kind W)
    rw [show decide (1 ≤ m.kind ∧ m.kind ≤ 7) = true by simpa using hk] at HK
    have HN := hid (fun W => named_c m.kind W)
    have HS := hid (fun W (hb : Below w.heap.size w W) => fits_c (.slice ao L cap) m.inputs W (hr.below hb))
    have HLd := hid (fun W => isLead_c m.lead W)
    generalize fillB ((m.nonce : Int) != 0) ((m.serial : Int) != 0) ((m.ack : Int) != 0) (decide (0 < m.inputs.length)) ((m.sum : Int) != 0) (m.lead != 0) = F at HF hst
    generalize namedI m.kind = N at HN hst
    change _ = strayD m at hst
    cases hs : strayD m with
    | true =>
      rw [hs] at hst hp
      rw [hp]
      simp only [Bool.not_true, Bool.false_and]
      clear hp hs HS HLd
      go_enter Try.func9, Try.ntmps9
      go_wp2_with fail
      have hX0 := hid (Box.new w m (.slice ao L cap))
      have hb0 := hid (box_below w (.cells (cellsD m (.slice ao L cap)) 26))
      generalize w.alloc (.cells (cellsD m (.slice ao L cap)) 26) = y0 at hX0 hb0 ⊢
      have hK := hid (fun W (h : Below y0.heap.size y0 W) => keepD hX0.out h)
      have hS0 := hK.out y0 (Below.refl _ y0)
      go_region_held3 (fun W => Below y0.heap.size y0 W ∧ W.cell? ⟨w.heap.size, 0, none⟩ = some (.int .i64 m.kind) ∧ W.cell? ⟨w.heap.size, 1, none⟩ = some (.int .u32 (m.nonce : Int)) ∧ W.cell? ⟨w.heap.size, 2, none⟩ = some (.int .u16 (m.serial : Int)) ∧ W.cell? ⟨w.heap.size, 3, none⟩ = some (.int .u16 (m.ack : Int)) ∧ W.cell? ⟨w.heap.size, 4, none⟩ = some (.slice ao L cap) ∧ W.cell? ⟨w.heap.size, 5, none⟩ = some (.int .u32 (m.sum : Int)) ∧ W.cell? ⟨w.heap.size, 6, none⟩ = some (.int .i64 m.lead)) (first | with_reducible assumption | exact hK.out _ (bdrew _ (Below.refl _ _)) | exact hK.out _ (bdrew1 (Below.refl _ _)) | exact hK.out _ (Below.refl _ _))
        (first
        | (go_at_call 24; ((with_reducible refine (HK.out _).mono ?_); rintro e w' ⟨rfl, rfl⟩))
        | (go_at_call 25; ((with_reducible refine (HF.out _).mono ?_); rintro e y1 ⟨rfl, hy1⟩; have hb1 := bt (show Below y0.heap.size y0 _ by first | with_reducible assumption | exact bdrew _ (Below.refl _ _) | exact bdrew1 (Below.refl _ _) | exact Below.refl _ _) hy1; have hS1 := hK.out _ hb1; clear hy1))
        | (go_at_call 17; ((with_reducible refine (HN.out _).mono ?_); rintro e w' ⟨rfl, rfl⟩)))
      all_goals
        have HB1 := hid (bt hb0.out hb1)
        obtain ⟨_, c0, c1, c2, c3, c4, c5, c6⟩ := hS1
        clear hS0
        go_wp2_with fail
        go_ret
        refine ⟨rfl, ?_⟩
        exact HB1.out
    | false =>
      rw [hs] at hst hp
      rw [hp]
      simp only [Bool.not_false, Bool.true_and]
      clear hp hs
      by_cases h3 : m.kind = 3
      · by_cases h0 : L = 0
        · rw [hL, show decide (m.kind = 3) = true by simpa using h3, show decide (L = 0) = true by simpa using h0]
          simp only [Bool.and_true, Bool.not_true, Bool.false_and]
          have g3 : (m.kind == 3) = true := by simpa using h3
          have g0 : ((L : Int) == 0) = true := by simp; omega
          clear h3 h0 HS HLd hL hk
          go_enter Try.func9, Try.ntmps9
          go_wp2_with fail
          have hX0 := hid (Box.new w m (.slice ao L cap))
          have hb0 := hid (box_below w (.cells (cellsD m (.slice ao L cap)) 26))
          generalize w.alloc (.cells (cellsD m (.slice ao L cap)) 26) = y0 at hX0 hb0 ⊢
          have hK := hid (fun W (h : Below y0.heap.size y0 W) => keepD hX0.out h)
          have hS0 := hK.out y0 (Below.refl _ y0)
          go_region_held3 (fun W => Below y0.heap.size y0 W ∧ W.cell? ⟨w.heap.size, 0, none⟩ = some (.int .i64 m.kind) ∧ W.cell? ⟨w.heap.size, 1, none⟩ = some (.int .u32 (m.nonce : Int)) ∧ W.cell? ⟨w.heap.size, 2, none⟩ = some (.int .u16 (m.serial : Int)) ∧ W.cell? ⟨w.heap.size, 3, none⟩ = some (.int .u16 (m.ack : Int)) ∧ W.cell? ⟨w.heap.size, 4, none⟩ = some (.slice ao L cap) ∧ W.cell? ⟨w.heap.size, 5, none⟩ = some (.int .u32 (m.sum : Int)) ∧ W.cell? ⟨w.heap.size, 6, none⟩ = some (.int .i64 m.lead)) (first | with_reducible assumption | exact hK.out _ (bdrew _ (Below.refl _ _)) | exact hK.out _ (bdrew1 (Below.refl _ _)) | exact hK.out _ (Below.refl _ _))
            (first
            | (go_at_call 24; ((with_reducible refine (HK.out _).mono ?_); rintro e w' ⟨rfl, rfl⟩))
            | (go_at_call 25; ((with_reducible refine (HF.out _).mono ?_); rintro e y1 ⟨rfl, hy1⟩; have hb1 := bt (show Below y0.heap.size y0 _ by first | with_reducible assumption | exact bdrew _ (Below.refl _ _) | exact bdrew1 (Below.refl _ _) | exact Below.refl _ _) hy1; have hS1 := hK.out _ hb1; clear hy1))
            | (go_at_call 17; ((with_reducible refine (HN.out _).mono ?_); rintro e w' ⟨rfl, rfl⟩)))
          all_goals
            have HB1 := hid (bt hb0.out hb1)
            obtain ⟨_, c0, c1, c2, c3, c4, c5, c6⟩ := hS1
            clear hS0
            go_wp2_with fail
            go_ret
            refine ⟨rfl, ?_⟩
            exact HB1.out
        · rw [hL, show decide (m.kind = 3) = true by simpa using h3, show decide (L = 0) = false by simpa using h0]
          simp only [Bool.and_false, Bool.not_false, Bool.true_and]
          have g3 : (m.kind == 3) = true := by simpa using h3
          have g0 : ((L : Int) == 0) = false := by simp; omega
          clear h3 h0 hL hk
          cases hf : fitB m.inputs with
          | true =>
            rw [hf] at HS
            simp only [Bool.true_and]
            generalize decide (-1000 ≤ m.lead ∧ m.lead ≤ 1000) = ld at HLd
            go_enter Try.func9, Try.ntmps9
            go_wp2_with fail
            have hX0 := hid (Box.new w m (.slice ao L cap))
            have hb0 := hid (box_below w (.cells (cellsD m (.slice ao L cap)) 26))
            generalize w.alloc (.cells (cellsD m (.slice ao L cap)) 26) = y0 at hX0 hb0 ⊢
            have hK := hid (fun W (h : Below y0.heap.size y0 W) => keepD hX0.out h)
            have hS0 := hK.out y0 (Below.refl _ y0)
            go_region_held3 (fun W => Below y0.heap.size y0 W ∧ W.cell? ⟨w.heap.size, 0, none⟩ = some (.int .i64 m.kind) ∧ W.cell? ⟨w.heap.size, 1, none⟩ = some (.int .u32 (m.nonce : Int)) ∧ W.cell? ⟨w.heap.size, 2, none⟩ = some (.int .u16 (m.serial : Int)) ∧ W.cell? ⟨w.heap.size, 3, none⟩ = some (.int .u16 (m.ack : Int)) ∧ W.cell? ⟨w.heap.size, 4, none⟩ = some (.slice ao L cap) ∧ W.cell? ⟨w.heap.size, 5, none⟩ = some (.int .u32 (m.sum : Int)) ∧ W.cell? ⟨w.heap.size, 6, none⟩ = some (.int .i64 m.lead)) (first | with_reducible assumption | exact hK.out _ (bdrew _ (Below.refl _ _)) | exact hK.out _ (bdrew1 (Below.refl _ _)) | exact hK.out _ (Below.refl _ _))
              (first
              | (go_at_call 24; ((with_reducible refine (HK.out _).mono ?_); rintro e w' ⟨rfl, rfl⟩))
              | (go_at_call 25; ((with_reducible refine (HF.out _).mono ?_); rintro e y1 ⟨rfl, hy1⟩; have hb1 := bt (show Below y0.heap.size y0 _ by first | with_reducible assumption | exact bdrew _ (Below.refl _ _) | exact bdrew1 (Below.refl _ _) | exact Below.refl _ _) hy1; have hS1 := hK.out _ hb1; clear hy1))
              | (go_at_call 17; ((with_reducible refine (HN.out _).mono ?_); rintro e w' ⟨rfl, rfl⟩)))
            all_goals
              have HB1 := hid (bt hb0.out hb1)
              obtain ⟨_, c0, c1, c2, c3, c4, c5, c6⟩ := hS1
              clear hS0
              go_wp2_with (first
                | (go_at_call 26; refine (HS.out _ HB1.out).mono ?_; rintro e w' ⟨rfl, rfl⟩)
                | (go_at_call 27; refine (HLd.out _).mono ?_; rintro e w' ⟨rfl, rfl⟩))
              go_ret
              refine ⟨rfl, ?_⟩
              exact HB1.out
          | false =>
            rw [hf] at HS
            simp only [Bool.false_and]
            clear HLd
            go_enter Try.func9, Try.ntmps9
            go_wp2_with fail
            have hX0 := hid (Box.new w m (.slice ao L cap))
            have hb0 := hid (box_below w (.cells (cellsD m (.slice ao L cap)) 26))
            generalize w.alloc (.cells (cellsD m (.slice ao L cap)) 26) = y0 at hX0 hb0 ⊢
            have hK := hid (fun W (h : Below y0.heap.size y0 W) => keepD hX0.out h)
            have hS0 := hK.out y0 (Below.refl _ y0)
            go_region_held3 (fun W => Below y0.heap.size y0 W ∧ W.cell? ⟨w.heap.size, 0, none⟩ = some (.int .i64 m.kind) ∧ W.cell? ⟨w.heap.size, 1, none⟩ = some (.int .u32 (m.nonce : Int)) ∧ W.cell? ⟨w.heap.size, 2, none⟩ = some (.int .u16 (m.serial : Int)) ∧ W.cell? ⟨w.heap.size, 3, none⟩ = some (.int .u16 (m.ack : Int)) ∧ W.cell? ⟨w.heap.size, 4, none⟩ = some (.slice ao L cap) ∧ W.cell? ⟨w.heap.size, 5, none⟩ = some (.int .u32 (m.sum : Int)) ∧ W.cell? ⟨w.heap.size, 6, none⟩ = some (.int .i64 m.lead)) (first | with_reducible assumption | exact hK.out _ (bdrew _ (Below.refl _ _)) | exact hK.out _ (bdrew1 (Below.refl _ _)) | exact hK.out _ (Below.refl _ _))
              (first
              | (go_at_call 24; ((with_reducible refine (HK.out _).mono ?_); rintro e w' ⟨rfl, rfl⟩))
              | (go_at_call 25; ((with_reducible refine (HF.out _).mono ?_); rintro e y1 ⟨rfl, hy1⟩; have hb1 := bt (show Below y0.heap.size y0 _ by first | with_reducible assumption | exact bdrew _ (Below.refl _ _) | exact bdrew1 (Below.refl _ _) | exact Below.refl _ _) hy1; have hS1 := hK.out _ hb1; clear hy1))
              | (go_at_call 17; ((with_reducible refine (HN.out _).mono ?_); rintro e w' ⟨rfl, rfl⟩)))
            all_goals
              have HB1 := hid (bt hb0.out hb1)
              obtain ⟨_, c0, c1, c2, c3, c4, c5, c6⟩ := hS1
              clear hS0
              go_wp2_with (go_at_call 26; refine (HS.out _ HB1.out).mono ?_; rintro e w' ⟨rfl, rfl⟩)
              go_ret
              refine ⟨rfl, ?_⟩
              exact HB1.out
      · rw [show decide (m.kind = 3) = false by simpa using h3]
        simp only [Bool.false_and, Bool.not_false, Bool.true_and]
        have g3 : (m.kind == 3) = false := by simpa using h3
        clear h3 hL hk
        cases hf : fitB m.inputs with
        | true =>
          rw [hf] at HS
          simp only [Bool.true_and]
          generalize decide (-1000 ≤ m.lead ∧ m.lead ≤ 1000) = ld at HLd
          go_enter Try.func9, Try.ntmps9
          go_wp2_with fail
          have hX0 := hid (Box.new w m (.slice ao L cap))
          have hb0 := hid (box_below w (.cells (cellsD m (.slice ao L cap)) 26))
          generalize w.alloc (.cells (cellsD m (.slice ao L cap)) 26) = y0 at hX0 hb0 ⊢
          have hK := hid (fun W (h : Below y0.heap.size y0 W) => keepD hX0.out h)
          have hS0 := hK.out y0 (Below.refl _ y0)
          go_region_held3 (fun W => Below y0.heap.size y0 W ∧ W.cell? ⟨w.heap.size, 0, none⟩ = some (.int .i64 m.kind) ∧ W.cell? ⟨w.heap.size, 1, none⟩ = some (.int .u32 (m.nonce : Int)) ∧ W.cell? ⟨w.heap.size, 2, none⟩ = some (.int .u16 (m.serial : Int)) ∧ W.cell? ⟨w.heap.size, 3, none⟩ = some (.int .u16 (m.ack : Int)) ∧ W.cell? ⟨w.heap.size, 4, none⟩ = some (.slice ao L cap) ∧ W.cell? ⟨w.heap.size, 5, none⟩ = some (.int .u32 (m.sum : Int)) ∧ W.cell? ⟨w.heap.size, 6, none⟩ = some (.int .i64 m.lead)) (first | with_reducible assumption | exact hK.out _ (bdrew _ (Below.refl _ _)) | exact hK.out _ (bdrew1 (Below.refl _ _)) | exact hK.out _ (Below.refl _ _))
            (first
            | (go_at_call 24; ((with_reducible refine (HK.out _).mono ?_); rintro e w' ⟨rfl, rfl⟩))
            | (go_at_call 25; ((with_reducible refine (HF.out _).mono ?_); rintro e y1 ⟨rfl, hy1⟩; have hb1 := bt (show Below y0.heap.size y0 _ by first | with_reducible assumption | exact bdrew _ (Below.refl _ _) | exact bdrew1 (Below.refl _ _) | exact Below.refl _ _) hy1; have hS1 := hK.out _ hb1; clear hy1))
            | (go_at_call 17; ((with_reducible refine (HN.out _).mono ?_); rintro e w' ⟨rfl, rfl⟩)))
          all_goals
            have HB1 := hid (bt hb0.out hb1)
            obtain ⟨_, c0, c1, c2, c3, c4, c5, c6⟩ := hS1
            clear hS0
            go_wp2_with (first
              | (go_at_call 26; refine (HS.out _ HB1.out).mono ?_; rintro e w' ⟨rfl, rfl⟩)
              | (go_at_call 27; refine (HLd.out _).mono ?_; rintro e w' ⟨rfl, rfl⟩))
            go_ret
            refine ⟨rfl, ?_⟩
            exact HB1.out
        | false =>
          rw [hf] at HS
          simp only [Bool.false_and]
          clear HLd
          go_enter Try.func9, Try.ntmps9
          go_wp2_with fail
          have hX0 := hid (Box.new w m (.slice ao L cap))
          have hb0 := hid (box_below w (.cells (cellsD m (.slice ao L cap)) 26))
          generalize w.alloc (.cells (cellsD m (.slice ao L cap)) 26) = y0 at hX0 hb0 ⊢
          have hK := hid (fun W (h : Below y0.heap.size y0 W) => keepD hX0.out h)
          have hS0 := hK.out y0 (Below.refl _ y0)
          go_region_held3 (fun W => Below y0.heap.size y0 W ∧ W.cell? ⟨w.heap.size, 0, none⟩ = some (.int .i64 m.kind) ∧ W.cell? ⟨w.heap.size, 1, none⟩ = some (.int .u32 (m.nonce : Int)) ∧ W.cell? ⟨w.heap.size, 2, none⟩ = some (.int .u16 (m.serial : Int)) ∧ W.cell? ⟨w.heap.size, 3, none⟩ = some (.int .u16 (m.ack : Int)) ∧ W.cell? ⟨w.heap.size, 4, none⟩ = some (.slice ao L cap) ∧ W.cell? ⟨w.heap.size, 5, none⟩ = some (.int .u32 (m.sum : Int)) ∧ W.cell? ⟨w.heap.size, 6, none⟩ = some (.int .i64 m.lead)) (first | with_reducible assumption | exact hK.out _ (bdrew _ (Below.refl _ _)) | exact hK.out _ (bdrew1 (Below.refl _ _)) | exact hK.out _ (Below.refl _ _))
            (first
            | (go_at_call 24; ((with_reducible refine (HK.out _).mono ?_); rintro e w' ⟨rfl, rfl⟩))
            | (go_at_call 25; ((with_reducible refine (HF.out _).mono ?_); rintro e y1 ⟨rfl, hy1⟩; have hb1 := bt (show Below y0.heap.size y0 _ by first | with_reducible assumption | exact bdrew _ (Below.refl _ _) | exact bdrew1 (Below.refl _ _) | exact Below.refl _ _) hy1; have hS1 := hK.out _ hb1; clear hy1))
            | (go_at_call 17; ((with_reducible refine (HN.out _).mono ?_); rintro e w' ⟨rfl, rfl⟩)))
          all_goals
            have HB1 := hid (bt hb0.out hb1)
            obtain ⟨_, c0, c1, c2, c3, c4, c5, c6⟩ := hS1
            clear hS0
            go_wp2_with (go_at_call 26; refine (HS.out _ HB1.out).mono ?_; rintro e w' ⟨rfl, rfl⟩)
            go_ret
            refine ⟨rfl, ?_⟩
            exact HB1.out
  · rw [right_no (fun hR => hk hR.1)]
    exact right_kind m ao L cap w hk
end Go.Proofs.Ytnjmmmclelmeiaa.Wr
