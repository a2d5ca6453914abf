/- What Send and Take of the document's cable (promptbookref08) return and leave, whatever end and place. -/
import Derived.Test.YtfifoikphhjomaaCbRSend
namespace Go.Proofs.Ytfifoikphhjomaa.Cb
open Go.RowKit Go.Proofs.Ytfifoikphhjomaa.Rg
set_option linter.unusedVariables false
set_option linter.unusedSimpArgs false

theorem rsend_c (dd : Int) (s : ByteArray) (w : World) (n₀ size m : Nat) (aos : Nat → Option Addr) (caps : Nat → Nat) (st : St) (h : Mir w n₀ size m aos caps st) (hs : size ≤ 4096) (hL : ∀ t, t < 2 → (st.L t).length ≤ size) (hlost : st.lost ≤ 1000000) (hn : n₀ ≤ w.heap.size) :
    Calls Try.prog 18 #[.pointer (some ⟨m, 0, none⟩), .int .i64 dd, .string s] w fun e w' => e = .returned (.tuple #[.bool (sendB size st dd s), .int .i64 (sendE dd s)]) ∧ LeftM n₀ size m aos (sendSt size st dd s) w w' := by
  by_cases hB : inB 2 dd = true
  · obtain ⟨t, rfl, ht⟩ := in_of hB
    by_cases h0 : s.size = 0
    · have e : sendE (t : Int) s = 1 := by simp [sendE, h0]
      rw [sendSt, sendB, e, if_neg (by omega)]
      refine (rsend_empty t s m w ht h0).mono ?_
      rintro e w' ⟨rfl, rfl⟩
      exact ⟨rfl, LeftM.same h (Below.refl _ _)⟩
    · by_cases h1 : 256 < s.size
      · have e : sendE (t : Int) s = 5 := by simp [sendE, hB, h0, h1]
        rw [sendSt, sendB, e, if_neg (by omega)]
        refine (rsend_long t s m w ht h1).mono ?_
        rintro e w' ⟨rfl, rfl⟩
        exact ⟨rfl, LeftM.same h (Below.refl _ _)⟩
      · have e : sendE (t : Int) s = 0 := by simp [sendE, hB, h0, h1]
        rw [sendSt, sendB, e, if_pos rfl, fly_in _ ht]
        by_cases hr : (st.L t).length < size
        · rw [if_pos hr]
          refine (rsend_room t s w n₀ size m aos caps st h ht h0 (by omega) hs hr hn).mono ?_
          rintro e w' ⟨rfl, h2⟩
          exact ⟨by simp [hr], by simpa using h2⟩
        · rw [if_neg hr]
          refine (rsend_full t s w n₀ size m aos caps st h ht h0 (by omega) (by have := hL t ht; omega) hlost).mono ?_
          rintro e w' ⟨rfl, h2⟩
          exact ⟨by simp [hr], h2⟩
  · have hB' : inB 2 dd = false := by simpa using hB
    have e : sendE dd s = 1 := by simp [sendE, hB']
    rw [sendSt, sendB, e, if_neg (by omega)]
    refine (rsend_bad dd s m w hB').mono ?_
    rintro e w' ⟨rfl, rfl⟩
    exact ⟨rfl, LeftM.same h (Below.refl _ _)⟩

theorem rtake_no (dd i : Int) (w : World) (n₀ size m : Nat) (aos : Nat → Option Addr) (caps : Nat → Nat) (st : St) (h : Mir w n₀ size m aos caps st) (hB : inB (flyL st.L dd).length i = false) :
    Calls Try.prog 19 #[.pointer (some ⟨m, 0, none⟩), .int .i64 dd, .int .i64 i] w fun e w' => e = .returned (.tuple #[.string ⟨#[]⟩, .bool false]) ∧ w = w' := by
  have HB := hid hB
  have Hc := hid (rcopy_c dd i w n₀ size m aos caps st h)
  clear hB h
  go_enter Try.func19, Try.ntmps19
  go_wp2_with (go_at_call 20; ((with_reducible refine Hc.out.mono ?_); rintro e w' ⟨rfl, rfl⟩; rw [HB.out]))
  go_ret2
  exact ⟨rfl, rfl⟩

set_option maxHeartbeats 1600000 in
theorem rtake_in (t k : Nat) (g : Nat) (w : World) (n₀ size m : Nat) (aos : Nat → Option Addr) (caps : Nat → Nat) (st : St) (h : Mir w n₀ size m aos caps st) (ht : t < 2) (hk : k < (st.L t).length) (hl : (st.L t).length ≤ 4096) (hn : n₀ ≤ w.heap.size) (hg : aos t = some ⟨g, 0, none⟩) :
    Calls Try.prog 19 #[.pointer (some ⟨m, 0, none⟩), .int .i64 t, .int .i64 k] w fun e w' => e = .returned (.tuple #[.string (atS (st.L t) k), .bool true]) ∧ LeftM n₀ size m aos ⟨upd st.L t ((st.L t).take k ++ (st.L t).drop (k + 1)), st.lost⟩ w w' := by
  have Hc : Hid (Calls Try.prog 20 #[.pointer (some ⟨m, 0, none⟩), .int .i64 t, .int .i64 k] w fun e w' => e = .returned (.tuple #[.string (atS (st.L t) k), .bool true]) ∧ w = w') := by
    have := rcopy_in t k w n₀ size m aos caps st h ht
    rw [in_in hk] at this
    exact this
  have hrow := h.row t ht
  have c1 := h.cell ht
  rw [hg] at hrow c1
  have HC : Hid (∀ w2 : World, Below w.heap.size w w2 → w2.cell? ⟨m, 1 + t, none⟩ = some (.slice (some ⟨g, 0, none⟩) (st.L t).length (caps t)) ∧ w2.frozen? ⟨m, 1 + t, none⟩ = false) := fun w2 hB2 => by
    have := (h.old hB2).cell ht
    rw [hg] at this
    exact ⟨this, (h.old hB2).frozen _⟩
  have HM := hid h
  have hb := h.lt
  clear hg
  generalize caps t = cap at hrow c1 HC
  obtain ⟨y0, hi, hz0, hz1, hz2⟩ := info_parts info_str
  obtain ⟨hcap, hcapm⟩ : (st.L t).length ≤ cap ∧ cap ≤ 9223372036854775807 := by
    rcases hrow.2 with ⟨h', _⟩ | ⟨_, _, _, h', _, _, h2, h3, _⟩
    · simp at h'
    · cases h'; exact ⟨h2, by simpa [maxLen] using h3⟩
  have hlt : g < w.heap.size := (hrow.lt g rfl).2
  have i0 : (0 : Int) ≤ (t : Int) := by omega
  have i1 : (t : Int) < 2 := by omega
  have hwr : IntKind.i64.wrap ((k : Int) + 1) = (k : Int) + 1 := IntWalk.i64_in _ (by omega)
  have hp0 : (0 : Int) ≤ (k : Int) + 1 := by omega
  have hp1 : (k : Int) + 1 ≤ ((st.L t).length : Int) := by omega
  have hp2 : ((k : Int) + 1).toNat = k + 1 := by omega
  have hkc : k ≤ cap := by omega
  have hkc1 : k + 1 ≤ cap := by omega
  have ca : ∀ o, (w.alloc o).cell? ⟨m, 1 + t, none⟩ = some (.slice (some ⟨g, 0, none⟩) (st.L t).length cap) := fun o => (World.cell?_alloc_past o m (1 + t) hb).trans c1
  have hLs : (strs (st.L t)).length = (st.L t).length := strs_len _
  have hso := strs_one (st.L t)
  have HE : Hid (∀ w2 ao2 cap2, Below w.heap.size w w2 → w2.ownsRow w.heap.size 9 1 (.slice ao2 (k + ((st.L t).length - (k + 1))) cap2) (k + ((st.L t).length - (k + 1))) ((strs (st.L t)).take k ++ (strs (st.L t)).drop (k + 1)) → LeftM n₀ size m aos ⟨upd st.L t ((st.L t).take k ++ (st.L t).drop (k + 1)), st.lost⟩ w (w2.setCell ⟨m, 1 + t, none⟩ (.slice ao2 (k + ((st.L t).length - (k + 1))) cap2))) := by
    intro w2 ao2 cap2 hB2 hown2
    refine LeftM.stored h ht hn hB2 hown2 ?_ ?_
    · simp; omega
    · simp [strs]
  generalize strs (st.L t) = xs at hrow hLs hso HE
  obtain ⟨A, hA, hsrc⟩ : ∃ A : Addr, (if cap = k + 1 then some (⟨g, 0, none⟩ : Addr) else some ⟨g, k + 1, none⟩) = some A ∧ Hid (∀ W : World, Below w.heap.size w W → ∀ t u, (xs.drop (k + 1))[t]? = some u → W.cell? (A.add t) = some u) := by
    by_cases hc : cap = k + 1
    · refine ⟨⟨g, 0, none⟩, by simp [hc], fun W _ t u hu => ?_⟩
      have h0 : (xs.drop (k + 1)).length = 0 := by rw [List.length_drop]; omega
      rw [List.length_eq_zero_iff.1 h0] at hu
      simp at hu
    · refine ⟨⟨g, k + 1, none⟩, by simp [hc], fun W hW t u hu => ?_⟩
      rw [Addr.add_lit]
      exact (hW.cell (p := ⟨g, k + 1 + t, none⟩) hlt).trans (row_from hrow (k + 1) t u hu)
  have hm0 := hid (World.ownsRow_made (e := 9) (size := 1) w #[] 0 (Nat.le_refl _) (by decide) rfl)
  have ht0 : Hid (∀ (W : World) (o : Obj), W.heap = (w.alloc o).heap → ∀ t u, (xs.take k)[t]? = some u → W.cell? ((⟨g, 0, none⟩ : Addr).add t) = some u) := by
    intro W o hW t u hu
    rw [Addr.add_lit]
    have e1 : W.heap[g]? = w.heap[g]? := by rw [hW]; exact Below.heap_alloc w o g hlt
    refine (World.cell?_of_block (a := ⟨g, 0 + t, none⟩) e1).trans (row_from hrow 0 t u ?_)
    rw [List.getElem?_take] at hu
    split at hu
    · simpa using hu
    · cases hu
  have hl1 : Hid ((xs.take k).length = k * 1) := by show _ = _; rw [List.length_take]; omega
  have hl2 : Hid ((xs.drop (k + 1)).length = ((st.L t).length - (k + 1)) * 1) := by show _ = _; rw [List.length_drop]; omega
  have o1 := hid (fun u (hu : u ∈ xs.take k) => hso u (List.mem_of_mem_take hu))
  have o2 := hid (fun u (hu : u ∈ xs.drop (k + 1)) => hso u (List.mem_of_mem_drop hu))
  clear hso hLs hrow h
  generalize (st.L t).length = N at *
  go_enter Try.func19, Try.ntmps19
  go_upto_region 4 with (go_at_call 20; ((with_reducible refine Hc.out.mono ?_); rintro e w' ⟨rfl, rfl⟩))
  go_region_law (first
    | (refine step_append_at _ rfl (.tmp 21) (.tmp 29) 29 rfl w.heap.size 9 y0 (.string ⟨#[]⟩) 1 16 Try.underlying29 hi hz0 hz1 hz2 rfl (by decide) (.slice (some ⟨w.heap.size, 0, none⟩) 0 0) 0 [] (by simp [Act.eval, Act.put]) (by exact row_heap rfl hm0.out) ⟨g, 0, none⟩ k cap (xs.take k) (by simp [Act.eval, Act.put]) hl1.out (by exact ht0.out _ (.cells #[] 9) rfl) o1.out (by unfold maxLen; omega) (by omega) (by simp) k (Nat.zero_add _) (xs.take k) (List.nil_append _) ?_; intro ao1 cap1 w1 hown1 hg1; have hB1 := below_new (w := w) (.cells #[] 9) hg1 rfl rfl rfl rfl (fun i hi => Nat.le_of_eq (by simpa [Value.ownBlock] using hi)); have c3 := (HC.out w1 hB1).1)
    | (refine step_append_at _ rfl (.tmp 30) (.tmp 39) 29 rfl w.heap.size 9 y0 (.string ⟨#[]⟩) 1 16 Try.underlying29 hi hz0 hz1 hz2 rfl (by decide) (.slice ao1 k cap1) k (xs.take k) (by simp [Act.eval, Act.put]) hown1 A (N - (k + 1)) (cap - (k + 1)) (xs.drop (k + 1)) (by simp [Act.eval, Act.put]) hl2.out (hsrc.out w1 hB1) o2.out (by unfold maxLen; omega) (by omega) hB1.size (k + (N - (k + 1))) rfl (xs.take k ++ xs.drop (k + 1)) rfl ?_; intro ao2 cap2 w2 hown2 hg2; have hB2 := hB1.grown hg2 hB1.size (fun i hi => (hown1.lt i hi).1); obtain ⟨c2, f2⟩ := HC.out w2 hB2))
  all_goals go_wp2
  all_goals go_ret2
  all_goals exact ⟨rfl, HE.out w2 ao2 cap2 hB2 hown2⟩

theorem rtake_c (dd i : Int) (w : World) (n₀ size m : Nat) (aos : Nat → Option Addr) (caps : Nat → Nat) (st : St) (h : Mir w n₀ size m aos caps st) (hL : ∀ t, t < 2 → (st.L t).length ≤ 4096) (hn : n₀ ≤ w.heap.size) :
    Calls Try.prog 19 #[.pointer (some ⟨m, 0, none⟩), .int .i64 dd, .int .i64 i] w fun e w' => e = .returned (.tuple #[.string (atS (flyL st.L dd) i), .bool (inB (flyL st.L dd).length i)]) ∧ LeftM n₀ size m aos (takeSt st dd i) w w' := by
  by_cases hB : inB (flyL st.L dd).length i = true
  · by_cases hd : inB 2 dd = true
    · obtain ⟨t, rfl, ht⟩ := in_of hd
      rw [fly_in _ ht] at hB ⊢
      obtain ⟨k, rfl, hk⟩ := in_of hB
      obtain ⟨g, hg, _⟩ := srow_cell (h.row t ht) k hk
      refine (rtake_in t k g w n₀ size m aos caps st h ht hk (hL t ht) hn hg).mono ?_
      rintro e w' ⟨rfl, h2⟩
      refine ⟨by rw [hB], h2.congr (fun s _ => ?_) rfl⟩
      show _ = takeF st.L (t : Int) (k : Int) s
      rw [takeF_in _ ht, offL_in hk]
    · rw [fly_no _ (by simpa using hd), show ([] : List ByteArray).length = 0 from rfl, in_zero] at hB
      cases hB
  · have hB' : inB (flyL st.L dd).length i = false := by simpa using hB
    have e1 : takeSt st dd i = st := by rw [takeSt, takeF, if_neg hB]
    rw [e1, hB', atS_no hB']
    refine (rtake_no dd i w n₀ size m aos caps st h hB').mono ?_
    rintro e w' ⟨rfl, rfl⟩
    exact ⟨rfl, LeftM.same h (Below.refl _ _)⟩

end Go.Proofs.Ytfifoikphhjomaa.Cb
