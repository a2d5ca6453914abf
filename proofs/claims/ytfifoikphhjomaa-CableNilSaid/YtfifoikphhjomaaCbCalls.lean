/- What each call of layer 8 (cable) returns, and what it leaves of the cable: isEnd, flyingTo, place, Flying, Lost, Take, Copy, Drop, Send, Spoil; on a cable that is not there too. -/
import Derived.Test.YtfifoikphhjomaaCbCab
import Derived.Deep.RegionHeld3
import Derived.Deep.DeepCutAuto
namespace Go.Proofs.Ytfifoikphhjomaa.Cb
open Go.RowKit Go.Proofs.Ytfifoikphhjomaa.Rg
set_option linter.unusedVariables false

theorem isEnd_c (dd : Int) (w : World) :
    Calls Try.prog 24 #[.int .i64 dd] w fun e w' => e = .returned (.bool (inB 2 dd)) ∧ w = w' := by
  by_cases h0 : dd < 0
  · rw [in_neg h0]
    go_enter Try.func24, Try.ntmps24
    go_wp2_with fail
    go_ret
    exact ⟨rfl, rfl⟩
  · by_cases h1 : (2 : Int) ≤ dd
    · rw [in_far (n := 2) h1]
      have e3 : decide (dd < 2) = false := by simp; omega
      go_enter Try.func24, Try.ntmps24
      go_wp2_with fail
      go_ret
      exact ⟨rfl, rfl⟩
    · have e : inB 2 dd = true := by simp [inB]; omega
      rw [e]
      clear e
      go_enter Try.func24, Try.ntmps24
      go_wp2_with fail
      go_ret
      exact ⟨rfl, rfl⟩

theorem fly_nil (dd : Int) (w : World) :
    Calls Try.prog 22 #[.pointer none, .int .i64 dd] w fun e w' => e = .returned (.pointer none) ∧ w = w' := by
  go_enter Try.func22, Try.ntmps22
  go_wp2_with fail
  go_ret
  exact ⟨rfl, rfl⟩

theorem fly_none (dd : Int) (b : Nat) (w : World) (h : inB 2 dd = false) :
    Calls Try.prog 22 #[.pointer (some ⟨b, 0, none⟩), .int .i64 dd] w fun e w' => e = .returned (.pointer none) ∧ w = w' := by
  have H := hid h
  clear h
  go_enter Try.func22, Try.ntmps22
  go_wp2_with (go_at_call 24; ((with_reducible refine (isEnd_c _ _).mono ?_); rintro e w' ⟨rfl, rfl⟩; rw [H.out]))
  go_ret
  exact ⟨rfl, rfl⟩

theorem fly_c (t b g : Nat) (w : World) (h : t < 2) (hc : w.cell? ⟨b, t, none⟩ = some (.pointer (some ⟨g, 0, none⟩))) :
    Calls Try.prog 22 #[.pointer (some ⟨b, 0, none⟩), .int .i64 t] w fun e w' => e = .returned (.pointer (some ⟨g, 0, none⟩)) ∧ w = w' := by
  have H := hid (in_in h)
  go_enter Try.func22, Try.ntmps22
  go_wp2_with (go_at_call 24; ((with_reducible refine (isEnd_c _ _).mono ?_); rintro e w' ⟨rfl, rfl⟩; rw [H.out]))
  go_ret
  exact ⟨rfl, rfl⟩

theorem place_c (at_ : Int) (n : Nat) (w : World) (h0 : 0 < n) (hn : n ≤ 1048576) :
    Calls Try.prog 29 #[.int .i64 at_, .int .i64 n] w fun e w' => e = .returned (.int .i64 (placeI at_ n)) ∧ w = w' := by
  obtain ⟨p1, p2⟩ := place_rem at_ n h0
  have h5 : at_.tmod n < n := Int.tmod_lt_of_pos at_ (by omega)
  have h6 : -(n : Int) < at_.tmod n := by
    have := Int.tmod_lt_of_pos (-at_) (show (0 : Int) < n by omega)
    rw [Int.neg_tmod] at this
    omega
  have hz : ((n : Int) == 0) = false := by simp; omega
  have hw : wrap64 (at_.tmod n) = at_.tmod n := IntWalk.wrap64_in _ (by omega)
  have hw2 : IntKind.i64.wrap (at_.tmod n) = at_.tmod n := IntWalk.i64_in _ (by omega)
  have hw3 : IntKind.i64.wrap (at_.tmod n + n) = at_.tmod n + n := IntWalk.i64_in _ (by omega)
  have P1 := hid p1
  have P2 := hid p2
  clear p1 p2
  by_cases hneg : at_.tmod n < 0
  · rw [← P1.out hneg]
    go_enter Try.func29, Try.ntmps29
    go_wp2_with fail
    go_ret
    exact ⟨rfl, rfl⟩
  · rw [← P2.out hneg]
    go_enter Try.func29, Try.ntmps29
    go_wp2_with fail
    go_ret
    exact ⟨rfl, rfl⟩

theorem flying_nil (dd : Int) (w : World) :
    Calls Try.prog 9 #[.pointer none, .int .i64 dd] w fun e w' => e = .returned (.int .i64 0) ∧ w = w' := by
  go_enter Try.func9, Try.ntmps9
  go_wp2_with (first
    | (go_at_call 22; ((with_reducible refine (fly_nil _ _).mono ?_); rintro e w' ⟨rfl, rfl⟩))
    | (go_at_call 23; ((with_reducible refine (slen_nil _).mono ?_); rintro e w' ⟨rfl, rfl⟩)))
  go_ret
  exact ⟨rfl, rfl⟩

theorem flying_c (dd : Int) (w : World) (n₀ size b : Nat) (bs : Nat → Nat) (aos : Nat → Option Addr) (caps : Nat → Nat) (st : St) (h : Cab w n₀ size b bs aos caps st) :
    Calls Try.prog 9 #[.pointer (some ⟨b, 0, none⟩), .int .i64 dd] w fun e w' => e = .returned (.int .i64 (flyL st.L dd).length) ∧ w = w' := by
  by_cases hB : inB 2 dd = true
  · obtain ⟨t, rfl, ht⟩ := in_of hB
    have hc := h.cell ht
    have c1 : w.cell? ⟨bs t, 1, none⟩ = some (.slice (aos t) (st.L t).length (caps t)) := by simpa using (h.ring t ht).cell 1
    rw [fly_in _ ht]
    clear hB
    go_enter Try.func9, Try.ntmps9
    go_wp2_with (first
      | (go_at_call 22; ((with_reducible refine (fly_c _ _ _ _ ht hc).mono ?_); rintro e w' ⟨rfl, rfl⟩))
      | (go_at_call 23; ((with_reducible refine (slen_c _ _ _ _ _ c1).mono ?_); rintro e w' ⟨rfl, rfl⟩)))
    go_ret
    exact ⟨rfl, rfl⟩
  · have hB' : inB 2 dd = false := by simpa using hB
    rw [fly_no _ hB']
    have HB := hid hB'
    clear hB hB'
    go_enter Try.func9, Try.ntmps9
    go_wp2_with (first
      | (go_at_call 22; ((with_reducible refine (fly_none _ _ _ HB.out).mono ?_); rintro e w' ⟨rfl, rfl⟩))
      | (go_at_call 23; ((with_reducible refine (slen_nil _).mono ?_); rintro e w' ⟨rfl, rfl⟩)))
    go_ret
    exact ⟨rfl, rfl⟩

theorem lost_nil (w : World) :
    Calls Try.prog 10 #[.pointer none] w fun e w' => e = .returned (.int .i64 0) ∧ w = w' := by
  go_enter Try.func10, Try.ntmps10
  go_wp2_with fail
  go_ret
  exact ⟨rfl, rfl⟩

theorem lost_c (b : Nat) (n : Int) (w : World) (h : w.cell? ⟨b, 2, none⟩ = some (.int .i64 n)) :
    Calls Try.prog 10 #[.pointer (some ⟨b, 0, none⟩)] w fun e w' => e = .returned (.int .i64 n) ∧ w = w' := by
  go_enter Try.func10, Try.ntmps10
  go_wp2_with fail
  go_ret
  exact ⟨rfl, rfl⟩

theorem ctake_nil (dd i : Int) (w : World) :
    Calls Try.prog 12 #[.pointer none, .int .i64 dd, .int .i64 i] w fun e w' => e = .returned (.tuple #[.string ⟨#[]⟩, .bool false]) ∧ w = w' := by
  go_enter Try.func12, Try.ntmps12
  go_wp2_with (first
    | (go_at_call 22; ((with_reducible refine (fly_nil _ _).mono ?_); rintro e w' ⟨rfl, rfl⟩))
    | (go_at_call 27; ((with_reducible refine (stake_nil _ _).mono ?_); rintro e w' ⟨rfl, rfl⟩)))
  go_ret2
  exact ⟨rfl, rfl⟩

theorem takeF_in (L : Nat → List ByteArray) {t : Nat} (ht : t < 2) (i : Int) : (∀ s, takeF L (t : Int) i s = upd L t (offL (L t) i) s) := by
  intro s
  unfold takeF
  rw [fly_in L ht]
  by_cases h : inB (L t).length i = true
  · rw [if_pos h]; simp
  · rw [if_neg h, offL_no (by simpa using h)]
    by_cases e : s = t
    · subst e; rw [upd_same]
    · rw [upd_other _ _ _ _ e]
theorem takeF_no (L : Nat → List ByteArray) {dd : Int} (h : inB 2 dd = false) (i : Int) : takeF L dd i = L := by
  unfold takeF
  rw [fly_no L h, if_neg (by rw [show ([] : List ByteArray).length = 0 from rfl, in_zero]; simp)]

theorem ctake_c (dd i : Int) (w : World) (n₀ size b : Nat) (bs : Nat → Nat) (aos : Nat → Option Addr) (caps : Nat → Nat) (st : St) (h : Cab w n₀ size b bs aos caps st) (hL : ∀ t, t < 2 → (st.L t).length ≤ 4096) :
    Calls Try.prog 12 #[.pointer (some ⟨b, 0, none⟩), .int .i64 dd, .int .i64 i] w fun e w' => e = .returned (.tuple #[.string (atS (flyL st.L dd) i), .bool (inB (flyL st.L dd).length i)]) ∧ Left n₀ size b bs aos (takeSt st dd i) w w' := by
  by_cases hB : inB 2 dd = true
  · obtain ⟨t, rfl, ht⟩ := in_of hB
    have hc := h.cell ht
    have hr := h.ring t ht
    have hl := hL t ht
    have hs := hid (fun (w' : World) ao' cap' (h1 : SRing w' n₀ (bs t) size ao' cap' (offL (st.L t) i)) hn hk => h.step ht h1 hn hk)
    rw [fly_in _ ht]
    clear hB
    go_enter Try.func12, Try.ntmps12
    go_wp2_with (first
      | (go_at_call 22; ((with_reducible refine (fly_c _ _ _ _ ht hc).mono ?_); rintro e w' ⟨rfl, rfl⟩))
      | (go_at_call 27; ((with_reducible refine (stake_c _ _ _ _ _ _ _ _ hr hl).mono ?_); rintro e w1 ⟨rfl, ao', cap', h1, hn, hk⟩)))
    go_ret2
    obtain ⟨h2, hn2, hk2⟩ := hs.out _ _ _ h1 hn hk
    exact ⟨rfl, ⟨_, _, h2.congr (fun s _ => (takeF_in st.L ht i s).symm) rfl, hn2⟩, hk2⟩
  · have hB' : inB 2 dd = false := by simpa using hB
    rw [fly_no _ hB']
    have HB := hid hB'
    have e1 : takeSt st dd i = st := by unfold takeSt; rw [takeF_no _ hB']
    rw [e1, show ([] : List ByteArray).length = 0 from rfl, in_zero, atS_no (by rw [show ([] : List ByteArray).length = 0 from rfl, in_zero])]
    clear hB hB' e1
    go_enter Try.func12, Try.ntmps12
    go_wp2_with (first
      | (go_at_call 22; ((with_reducible refine (fly_none _ _ _ HB.out).mono ?_); rintro e w' ⟨rfl, rfl⟩))
      | (go_at_call 27; ((with_reducible refine (stake_nil _ _).mono ?_); rintro e w' ⟨rfl, rfl⟩)))
    go_ret2
    exact ⟨rfl, Left.same h (Below.refl _ _)⟩

theorem ccopy_nil (dd i : Int) (w : World) :
    Calls Try.prog 13 #[.pointer none, .int .i64 dd, .int .i64 i] w fun e w' => e = .returned (.tuple #[.string ⟨#[]⟩, .bool false]) ∧ Below w.heap.size w w' := by
  go_enter Try.func13, Try.ntmps13
  go_wp2_with (first
    | (go_at_call 22; ((with_reducible refine (fly_nil _ _).mono ?_); rintro e w' ⟨rfl, rfl⟩))
    | (go_at_call 28; ((with_reducible refine (sat_nil _ _).mono ?_); rintro e w' ⟨rfl, rfl⟩))
    | (go_at_call 26; ((with_reducible refine (clone_c _ _ (by simp [ByteArray.size])).mono ?_); rintro e w1 ⟨rfl, hB1⟩)))
  go_ret2
  exact ⟨rfl, hB1⟩

theorem ccopy_c (dd i : Int) (w : World) (n₀ size b : Nat) (bs : Nat → Nat) (aos : Nat → Option Addr) (caps : Nat → Nat) (st : St) (h : Cab w n₀ size b bs aos caps st) (hL : ∀ t, t < 2 → (st.L t).length ≤ 4096) (hS : (atS (flyL st.L dd) i).size ≤ 1048576) :
    Calls Try.prog 13 #[.pointer (some ⟨b, 0, none⟩), .int .i64 dd, .int .i64 i] w fun e w' => e = .returned (.tuple #[.string (atS (flyL st.L dd) i), .bool (inB (flyL st.L dd).length i)]) ∧ Below w.heap.size w w' := by
  by_cases hB : inB 2 dd = true
  · obtain ⟨t, rfl, ht⟩ := in_of hB
    have hc := h.cell ht
    have hr := h.ring t ht
    have hl := hL t ht
    rw [fly_in _ ht] at hS ⊢
    have HS := hid hS
    clear hB hS
    go_enter Try.func13, Try.ntmps13
    go_wp2_with (first
      | (go_at_call 22; ((with_reducible refine (fly_c _ _ _ _ ht hc).mono ?_); rintro e w' ⟨rfl, rfl⟩))
      | (go_at_call 28; ((with_reducible refine (sat_c _ _ _ _ _ _ _ _ hr hl).mono ?_); rintro e w' ⟨rfl, rfl⟩))
      | (go_at_call 26; ((with_reducible refine (clone_c _ _ HS.out).mono ?_); rintro e w1 ⟨rfl, hB1⟩)))
    go_ret2
    exact ⟨rfl, hB1⟩
  · have hB' : inB 2 dd = false := by simpa using hB
    rw [fly_no _ hB']
    have HB := hid hB'
    rw [show ([] : List ByteArray).length = 0 from rfl, in_zero, atS_no (by rw [show ([] : List ByteArray).length = 0 from rfl, in_zero])]
    clear hB hB' hS
    go_enter Try.func13, Try.ntmps13
    go_wp2_with (first
      | (go_at_call 22; ((with_reducible refine (fly_none _ _ _ HB.out).mono ?_); rintro e w' ⟨rfl, rfl⟩))
      | (go_at_call 28; ((with_reducible refine (sat_nil _ _).mono ?_); rintro e w' ⟨rfl, rfl⟩))
      | (go_at_call 26; ((with_reducible refine (clone_c _ _ (by simp [ByteArray.size])).mono ?_); rintro e w1 ⟨rfl, hB1⟩)))
    go_ret2
    exact ⟨rfl, hB1⟩

theorem cdrop_nil (dd i : Int) (w : World) :
    Calls Try.prog 14 #[.pointer none, .int .i64 dd, .int .i64 i] w fun e w' => e = .returned (.bool false) ∧ w = w' := by
  go_enter Try.func14, Try.ntmps14
  go_wp2_with (go_at_call 12; ((with_reducible refine (ctake_nil _ _ _).mono ?_); rintro e w' ⟨rfl, rfl⟩))
  go_ret
  exact ⟨rfl, rfl⟩

theorem cdrop_c (dd i : Int) (w : World) (n₀ size b : Nat) (bs : Nat → Nat) (aos : Nat → Option Addr) (caps : Nat → Nat) (st : St) (h : Cab w n₀ size b bs aos caps st) (hL : ∀ t, t < 2 → (st.L t).length ≤ 4096) (hl : st.lost ≤ 1000000) :
    Calls Try.prog 14 #[.pointer (some ⟨b, 0, none⟩), .int .i64 dd, .int .i64 i] w fun e w' => e = .returned (.bool (inB (flyL st.L dd).length i)) ∧ Left n₀ size b bs aos (dropSt st dd i) w w' := by
  have Ht := hid (ctake_c dd i w n₀ size b bs aos caps st h hL)
  by_cases hB : inB (flyL st.L dd).length i = true
  · have e1 : dropSt st dd i = ⟨takeF st.L dd i, st.lost + 1⟩ := by rw [dropSt, if_pos hB]
    rw [e1, hB]
    have HB := hid hB
    clear e1 hB h hL
    go_enter Try.func14, Try.ntmps14
    go_wp2_with (go_at_call 12; ((with_reducible refine Ht.out.mono ?_); rintro e w1 ⟨rfl, ⟨aos1, caps1, h1, hn1⟩, hk1⟩; rw [HB.out]; have c2 := h1.cell2; have f2 := h1.frozen 2; dsimp only [takeSt] at c2))
    go_ret
    obtain ⟨h2, hk2⟩ := h1.count (st.lost + 1)
    exact ⟨rfl, Left.trans hn1 hk1 ⟨⟨_, _, h2, Nears.refl _ _⟩, hk2⟩⟩
  · have hB' : inB (flyL st.L dd).length i = false := by simpa using hB
    have e1 : dropSt st dd i = takeSt st dd i := by rw [dropSt, if_neg hB, takeSt, takeF, if_neg hB]
    rw [e1, hB']
    have HB := hid hB'
    clear e1 hB hB' h hL
    go_enter Try.func14, Try.ntmps14
    go_wp2_with (go_at_call 12; ((with_reducible refine Ht.out.mono ?_); rintro e w1 ⟨rfl, h1⟩; rw [HB.out]))
    go_ret
    exact ⟨rfl, h1⟩

end Go.Proofs.Ytfifoikphhjomaa.Cb
