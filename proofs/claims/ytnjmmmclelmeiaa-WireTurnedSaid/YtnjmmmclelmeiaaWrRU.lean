/- What the document's Unpack of layer 7 (wire) returns: the same as the program's. -/
import Derived.Test.YtnjmmmclelmeiaaWrF
import Derived.Test.YtnjmmmclelmeiaaWrFy
import Derived.Test.YtnjmmmclelmeiaaWrFz
import Derived.Test.YtnjmmmclelmeiaaWrRP
import Derived.Test.YtnjmmmclelmeiaaWrUnp
namespace Go.Proofs.Ytnjmmmclelmeiaa.Wr
open Go.RowKit Go.Proofs.Ytnjmmmclelmeiaa.Fx Go.Proofs.Ytnjmmmclelmeiaa.Pk

theorem noth_of {t : List UInt8} {w w' : World} {e : Ending} (h : ∀ m', ¬ IsD t m') (hn : Noth w e w') : ∃ v m ok, e = .returned (.tuple #[v, .bool ok]) ∧ Holds w' v m ∧ Below w.heap.size w w' ∧ FSays t m ok :=
  ⟨_, zeroD, false, hn.1, ⟨none, 0, 0, rfl, Rd.nil _, zero_in⟩, hn.2, fsays_none h⟩

theorem fields_c (s : ByteArray) (w : World) (hs : s.size ≤ 1073741824) :
    Calls Try.prog 35 #[.string s] w fun e w' => ∃ v m ok, e = .returned (.tuple #[v, .bool ok]) ∧ Holds w' v m ∧ Below w.heap.size w w' ∧ FSays s.data.toList m ok := by
  by_cases h : s.size < 2 ∨ ∃ h0 : 0 < s.size, s[0] ≠ 80
  · refine (fields_head s w h).mono fun e w' hn => noth_of (fun m' => no_head ?_ m') hn
    intro c r e
    rcases h with h | ⟨h0, h⟩
    · have := congrArg List.length e
      rw [← Lib.size_eq] at this
      simp at this
      omega
    · by_cases h2 : s.size < 2
      · have := congrArg List.length e
        rw [← Lib.size_eq] at this
        simp at this
        omega
      · rw [two_list s h2] at e
        injection e with e _
        exact h e
  · have h2 : ¬ s.size < 2 := fun c => h (.inl c)
    have h0 : s[0] = 80 := by
      by_cases c : s[0] = 80
      · exact c
      · exact absurd (.inr ⟨by omega, c⟩) h
    have h80 : ((s[0].toNat : Int) != 80) = false := by rw [h0]; rfl
    have hl := two_list s h2
    rw [h0] at hl
    have hrl : (s.data.toList.drop 2).length = s.size - 2 := by rw [List.length_drop, ← Lib.size_eq]
    obtain ⟨k, hk⟩ : ∃ k : Int, (s[1].toNat : Int) = k := ⟨_, rfl⟩
    have hno : ∀ (P : Prop), (P → ∀ m, ¬ IsD (80 :: s[1] :: s.data.toList.drop 2) m) → P → ∀ m, ¬ IsD s.data.toList m := fun P hp p => by rw [hl]; exact hp p
    by_cases hc : 1 ≤ k ∧ k ≤ 7
    · by_cases hz : s.size - 2 < sizeN k
      · have h6 : 1 ≤ k ∧ k ≤ 6 := by
          refine ⟨hc.1, ?_⟩
          by_cases e : k = 7
          · subst e; simp [sizeN] at hz
          · omega
        exact (fields_short s w k h2 h80 hk h6 hz).mono fun e w' hn => noth_of (hno _ (is_size hk) (.inr (by rw [hrl]; exact hz))) hn
      · have hfin : ∀ {e w'}, Flds k s w e w' → ∃ v m ok, e = .returned (.tuple #[v, .bool ok]) ∧ Holds w' v m ∧ Below w.heap.size w w' ∧ FSays s.data.toList m ok := by
          rintro e w' ⟨v, m, he, hv, hb, hm⟩
          refine ⟨v, m, _, he, hv, hb, ?_⟩
          rw [hl]
          exact fsays_of hk hm
        have hk7 : k = 1 ∨ k = 2 ∨ k = 3 ∨ k = 4 ∨ k = 5 ∨ k = 6 ∨ k = 7 := by omega
        rcases hk7 with rfl | rfl | rfl | rfl | rfl | rfl | rfl
        · exact (fields_k1 s w hs h2 h80 hk (by simp [sizeN] at hz; omega)).mono fun e w' hf => hfin hf
        · exact (fields_k2 s w hs h2 h80 hk (by simp [sizeN] at hz; omega)).mono fun e w' hf => hfin hf
        · by_cases he : (readR ((s.data.toList.drop 2).drop 4)).2.2 = 0
          · exact (fields_k3 s w hs h2 h80 hk (by simp [sizeN] at hz; omega) he).mono fun e w' hf => hfin hf
          · exact (fields_run s w hs h2 h80 hk (by simp [sizeN] at hz; omega) he).mono fun e w' hn => noth_of (hno _ (is_run hk (by rw [hrl]; simp [sizeN] at hz; omega)) he) hn
        · exact (fields_k4 s w hs h2 h80 hk (by simp [sizeN] at hz; omega)).mono fun e w' hf => hfin hf
        · exact (fields_k5 s w hs h2 h80 hk (by simp [sizeN] at hz; omega)).mono fun e w' hf => hfin hf
        · by_cases he : (rdN ((s.data.toList.drop 2).drop 2)).2.2 ≠ 0 ∨ 4000 < (rdN ((s.data.toList.drop 2).drop 2)).1
          · exact (fields_lead s w hs h2 h80 hk (by simp [sizeN] at hz; omega) he).mono fun e w' hn => noth_of (hno _ (is_lead hk (by rw [hrl]; simp [sizeN] at hz; omega)) he) hn
          · exact (fields_k6 s w hs h2 h80 hk (by simp [sizeN] at hz; omega) (by omega) (by omega)).mono fun e w' hf => hfin hf
        · exact (fields_k7 s w hs h2 h80 hk).mono fun e w' hf => hfin hf
    · exact (fields_kind s w k h2 h80 hk hc).mono fun e w' hn => noth_of (hno _ (is_size hk) (.inl hc)) hn

set_option maxHeartbeats 2000000 in
theorem runpack_short (s : ByteArray) (w : World) (h : s.size < 4) :
    Calls Try.prog 14 #[.string s] w (Unp s.data.toList w) := by
  have HT : Hid (TellD s.data.toList zeroD 3) := .inl ⟨rfl, rfl, by rw [← Lib.size_eq]; exact h⟩
  go_enter Try.func14, Try.ntmps14
  go_wp2_with fail
  go_returns
  exact unp_zero HT.out (box_below w _)

theorem seal_eqB (s : ByteArray) (k : Nat) (hk : s.size = k + 4) (b : Bool) (h : b = decide (Sm.fourL (Sm.ofI (s.data.toList.take k)) = s.data.toList.drop k)) : ((Sm.sealS (s.extract 0 k)).toList == s.toList) = b := by
  subst h
  rw [Bool.eq_iff_iff, ByteArray.toList_eq, ByteArray.toList_eq]
  simp only [beq_iff_eq, decide_eq_true_eq]
  exact Sm.seal_of s k hk

set_option maxHeartbeats 2000000 in
theorem runpack_sum (s : ByteArray) (k : Nat) (w : World) (hk : s.size = k + 4) (hs : k ≤ 1073741824) (hn : Sm.fourL (Sm.ofI (s.data.toList.take k)) ≠ s.data.toList.drop k) :
    Calls Try.prog 14 #[.string s] w (Unp s.data.toList w) := by
  have hkl : s.data.toList.length = k + 4 := by rw [← Lib.size_eq]; exact hk
  have HT : Hid (TellD s.data.toList zeroD 15) := .inr (.inl ⟨rfl, rfl, by omega, by unfold Sealed; rw [hkl]; exact hn⟩)
  have hb := seal_eqB s k hk false (by simpa using hn)
  have hsz : (s.extract 0 k).size + 4 ≤ maxLen := by rw [ByteArray.size_extract]; unfold maxLen; omega
  have Z := hid hsz
  clear hn hkl hsz
  go_enter Try.func14, Try.ntmps14
  go_wp2_with (go_at_call 15; ((with_reducible refine (Sm.rseal_c (s.extract 0 k) _ Z.out).mono ?_); rintro e y ⟨rfl, hy⟩; have hB := hid ((Box.new w zeroD (.slice none 0 0)).below hy); obtain ⟨c0, c1, c2, c3, c4, c5, c6⟩ := hB.out.cells; have f0 := hB.out.frozen; have hby := hid (bt (box_below w _) hy); clear hy))
  have hF := Box.fin (m := zeroD) hB.out (by intro k x; simp) (Rd.nil _) hby.out hby.out.size
  obtain ⟨q0, q1, q2, q3, q4, q5, q6⟩ := hF.1.cells
  refine bodyPost_ret (results_msg rfl _ _ w.heap.size rfl _ _ _ _ _ _ _ q0 q1 q2 q3 q4 q5 q6) rfl ?_
  exact unp_zero HT.out hF.2.2

/-- sealed bytes are these, just if what is sealed is. -/
theorem seal_iff (l : List UInt8) (s : ByteArray) (k : Nat) (hk : s.size = k + 4) (hn : Sm.fourL (Sm.ofI (s.data.toList.take k)) = s.data.toList.drop k) : (Sm.sealS ⟨l.toArray⟩).toList = s.toList ↔ l = s.data.toList.take k := by
  have hsl : s.data.toList.length = k + 4 := by rw [← Lib.size_eq]; exact hk
  rw [ByteArray.toList_eq, ByteArray.toList_eq, Sm.seal_list]
  show l ++ Sm.fourL (Sm.ofI l) = _ ↔ _
  constructor
  · intro h
    have h1 := congrArg List.length h
    rw [List.length_append, Sm.four_len, hsl] at h1
    have h2 := congrArg (List.take k) h
    rwa [List.take_append_of_le_length (by omega), List.take_of_length_le (by omega)] at h2
  · rintro rfl
    rw [hn, List.take_append_drop]

set_option maxHeartbeats 4000000 in
theorem runpack_yes (s : ByteArray) (k : Nat) (w : World) (hk : s.size = k + 4) (hs : k ≤ 1073741824) (hn : Sm.fourL (Sm.ofI (s.data.toList.take k)) = s.data.toList.drop k) :
    Calls Try.prog 14 #[.string s] w (Unp s.data.toList w) := by
  have hkl : s.data.toList.length = k + 4 := by rw [← Lib.size_eq]; exact hk
  have hkm : s.data.toList.length - 4 = k := by omega
  have hT4 : Hid ((∀ m', ¬ IsD (s.data.toList.take k) m') → TellD s.data.toList zeroD 4) := fun h => .inr (.inr (.inl ⟨rfl, rfl, by omega, by unfold Sealed; rw [hkm]; exact hn, by rw [hkm]; exact h⟩))
  have hT0 : Hid (∀ m, IsD (s.data.toList.take k) m → TellD s.data.toList m 0) := fun m h => .inr (.inr (.inr ⟨rfl, by omega, by unfold Sealed; rw [hkm]; exact hn, by rw [hkm]; exact h⟩))
  have hb := seal_eqB s k hk true (by simpa using hn)
  have hSI := fun l => hid (seal_iff l s k hk hn)
  have hsz : (s.extract 0 k).size + 4 ≤ maxLen := by rw [ByteArray.size_extract]; unfold maxLen; omega
  have Z := hid hsz
  have HR := hid (fun W => fields_c (s.extract 0 k) W (by rw [ByteArray.size_extract]; omega))
  rw [head_list] at HR
  clear hn hkl hkm hsz
  go_enter Try.func14, Try.ntmps14
  go_upto_region 7 with (first
    | (go_at_call 15; ((with_reducible refine (Sm.rseal_c (s.extract 0 k) _ Z.out).mono ?_); rintro e y ⟨rfl, hy⟩; have hB := hid ((Box.new w zeroD (.slice none 0 0)).below hy); have hby := hid (bt (box_below w _) hy); clear hy))
    | (go_at_call 35; ((with_reducible refine (HR.out _).mono ?_); rintro e y2 ⟨v, m, ok, rfl, ⟨ao, L, cap, rfl, hrd, hin⟩, hy2, hsay⟩; have hB2 := hid (hB.out.below hy2); have hby2 := hid (bt hby.out hy2); clear hy2)))
  have hal := box_below y2 (.cells (cellsD m (.slice ao L cap)) 26)
  have hB3 := hid (hB2.out.below hal)
  have hby3 := hid (bt hby2.out hal)
  have hX3 := hid (Box.new y2 m (.slice ao L cap))
  have hrd3 := hid (hrd.below hal)
  have HIN := hid hin
  obtain ⟨c0, c1, c2, c3, c4, c5, c6⟩ := hB3.out.cells
  have f0 := hB3.out.frozen
  clear hal hrd
  cases ok with
  | false =>
    have HT := hid (hT4.out (fun m' hm => Bool.noConfusion (hsay.2 m' hm).2))
    clear hsay
    go_wp2_with fail
    have hF := Box.fin (m := zeroD) hB3.out (by intro k x; simp) (Rd.nil _) hby3.out hby3.out.size
    obtain ⟨q0, q1, q2, q3, q4, q5, q6⟩ := hF.1.cells
    refine bodyPost_ret (results_msg rfl _ _ w.heap.size rfl _ _ _ _ _ _ _ q0 q1 q2 q3 q4 q5 q6) rfl ?_
    exact unp_zero HT.out hF.2.2
  | true =>
    have hR := hsay.1 rfl
    have HQ := hid (rpack_c (.agg (cellsD m (.slice ao L cap))) m (y2.alloc (.cells (cellsD m (.slice ao L cap)) 26)) ⟨ao, L, cap, rfl, hrd3.out, hin⟩ hR)
    obtain ⟨Sx, hSx⟩ : ∃ S, S = Sm.sealS ⟨(msgL m).toArray⟩ := ⟨_, rfl⟩
    have hsi := (hSI (msgL m)).out
    rw [← hSx] at HQ hsi
    clear hin hSx hSI
    by_cases he : msgL m = s.data.toList.take k
    · have HT := hid (hT0.out m ⟨hR, HIN.out, he⟩)
      have he2 : (Sx.toList == s.toList) = true := by simpa using hsi.2 he
      clear hsay hR hsi he
      go_wp2_with (go_at_call 12; ((with_reducible refine HQ.out.mono ?_); rintro e y4 ⟨rfl, hy4⟩; have hB4 := hid (hB3.out.below hy4); have hX4 := hid (hX3.out.below hy4); have hby4 := hid (bt hby3.out hy4); have hrd4 := hid (hrd3.out.below hy4); obtain ⟨d0, d1, d2, d3, d4, d5, d6⟩ := hB4.out.cells; have f4 := hB4.out.frozen; obtain ⟨x0, x1, x2, x3, x4, x5, x6⟩ := hX4.out.cells; clear hy4))
      have hF := Box.fin (m := m) hB4.out (by intro k x; simp) hrd4.out hby4.out hby4.out.size
      obtain ⟨q0, q1, q2, q3, q4, q5, q6⟩ := hF.1.cells
      refine bodyPost_ret (results_msg rfl _ _ w.heap.size rfl _ _ _ _ _ _ _ q0 q1 q2 q3 q4 q5 q6) rfl ?_
      exact ⟨m, 0, ao, L, cap, rfl, hF.2.1, HIN.out, HT.out, hF.2.2⟩
    · have HT := hid (hT4.out (fun m' hm => by
        obtain ⟨rfl, _⟩ := hsay.2 m' hm
        exact he hm.2.2))
      have he2 : (Sx.toList == s.toList) = false := by
        rw [Bool.eq_false_iff]
        intro c
        exact he (hsi.1 (by simpa using c))
      clear hsay hR hsi he
      go_wp2_with (go_at_call 12; ((with_reducible refine HQ.out.mono ?_); rintro e y4 ⟨rfl, hy4⟩; have hB4 := hid (hB3.out.below hy4); have hby4 := hid (bt hby3.out hy4); obtain ⟨d0, d1, d2, d3, d4, d5, d6⟩ := hB4.out.cells; have f4 := hB4.out.frozen; clear hy4))
      have hF := Box.fin (m := zeroD) hB4.out (by intro k x; simp) (Rd.nil _) hby4.out hby4.out.size
      obtain ⟨q0, q1, q2, q3, q4, q5, q6⟩ := hF.1.cells
      refine bodyPost_ret (results_msg rfl _ _ w.heap.size rfl _ _ _ _ _ _ _ q0 q1 q2 q3 q4 q5 q6) rfl ?_
      exact unp_zero HT.out hF.2.2

theorem runpack_c (s : ByteArray) (w : World) (hs : s.size ≤ 1073741824) : Calls Try.prog 14 #[.string s] w (Unp s.data.toList w) := by
  by_cases h : s.size < 4
  · exact runpack_short s w h
  · obtain ⟨k, hk⟩ : ∃ k, s.size = k + 4 := ⟨s.size - 4, by omega⟩
    by_cases hn : Sm.fourL (Sm.ofI (s.data.toList.take k)) = s.data.toList.drop k
    · exact runpack_yes s k w hk (by omega) hn
    · exact runpack_sum s k w hk (by omega) hn
end Go.Proofs.Ytnjmmmclelmeiaa.Wr
