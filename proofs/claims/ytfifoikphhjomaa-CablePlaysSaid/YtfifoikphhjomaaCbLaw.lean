/- A cable of the program's and one of the document's side by side; the acts that came in; the chapter's example (awake). -/
import Derived.Test.YtfifoikphhjomaaCbRTake
import Derived.OpenShut
import Derived.Carry
import Derived.WideShapes
import Derived.Deep.Slices
import Derived.Deep.Strs
namespace Go.Proofs.Ytfifoikphhjomaa.Cb
open Go.RowKit Go.Proofs.Ytfifoikphhjomaa.Rg Go.ChangeShapes Go.WideShapes Go.Deep
set_option linter.unusedVariables false

theorem awake_st1 : sendB 2 ⟨fun _ => [], 0⟩ 1 ⟨#[97]⟩ = true ∧ sendE 1 ⟨#[97]⟩ = 0 := ⟨rfl, rfl⟩
theorem awake_st2 : sendB 2 (sendSt 2 ⟨fun _ => [], 0⟩ 1 ⟨#[97]⟩) 1 ⟨#[98]⟩ = true ∧ sendE 1 ⟨#[98]⟩ = 0 := ⟨rfl, rfl⟩
theorem awake_st3 : atS (flyL (sendSt 2 (sendSt 2 ⟨fun _ => [], 0⟩ 1 ⟨#[97]⟩) 1 ⟨#[98]⟩).L 1) 1 = ⟨#[98]⟩ ∧ inB (flyL (sendSt 2 (sendSt 2 ⟨fun _ => [], 0⟩ 1 ⟨#[97]⟩) 1 ⟨#[98]⟩).L 1).length 1 = true := ⟨rfl, rfl⟩

/-- how many fly, and were lost: fit for the calls. -/
structure Ok (size : Nat) (st : St) : Prop where
  len : ∀ t, t < 2 → (st.L t).length ≤ size
  str : ∀ t, t < 2 → ∀ x ∈ st.L t, 0 < x.size ∧ x.size ≤ 256
def total (st : St) : Nat := st.lost + (st.L 0).length + (st.L 1).length

theorem Ok.new (size : Nat) : Ok size ⟨fun _ => [], 0⟩ := ⟨fun _ _ => by simp, fun _ _ x hx => by simp at hx⟩
theorem Ok.fly {size : Nat} {st : St} (h : Ok size st) {dd i : Int} (hi : inB (flyL st.L dd).length i = true) : 0 < (atS (flyL st.L dd) i).size ∧ (atS (flyL st.L dd) i).size ≤ 256 := by
  have hm := atS_mem hi
  unfold flyL at hm
  split at hm
  · next hd =>
    obtain ⟨t, rfl, ht⟩ := in_of hd
    exact h.str t ht _ (by simpa [flyL, in_in ht] using hm)
  · simp at hm
theorem Ok.at_le {size : Nat} {st : St} (h : Ok size st) (dd i : Int) : (atS (flyL st.L dd) i).size ≤ 1048576 := by
  by_cases hi : inB (flyL st.L dd).length i = true
  · have := h.fly hi; omega
  · rw [atS_no (by simpa using hi)]; decide
theorem sum_upd (L : Nat → List ByteArray) {t : Nat} (ht : t < 2) (l : List ByteArray) : (upd L t l 0).length + (upd L t l 1).length + (L t).length = (L 0).length + (L 1).length + l.length := by
  rcases t with _ | _ | t
  · simp [upd]; omega
  · simp [upd]; omega
  · omega

theorem Ok.send {size : Nat} {st : St} (h : Ok size st) (dd : Int) (s : ByteArray) : Ok size (sendSt size st dd s) ∧ total (sendSt size st dd s) = total st + (if sendE dd s = 0 then 1 else 0) := by
  unfold sendSt
  by_cases he : sendE dd s = 0
  · rw [if_pos he, if_pos he]
    have hd : inB 2 dd = true ∧ 0 < s.size ∧ s.size ≤ 256 := by
      unfold sendE at he
      by_cases h0 : inB 2 dd = false ∨ s.size = 0
      · rw [if_pos h0] at he; omega
      · rw [if_neg h0] at he
        by_cases h1 : 256 < s.size
        · rw [if_pos h1] at he; omega
        · refine ⟨?_, ?_, by omega⟩
          · by_cases hx : inB 2 dd = true
            · exact hx
            · exact absurd (.inl (by simpa using hx)) h0
          · have : s.size ≠ 0 := fun e => h0 (.inr e)
            omega
    obtain ⟨hd, hs0, hs1⟩ := hd
    obtain ⟨t, rfl, ht⟩ := in_of hd
    rw [fly_in _ ht]
    by_cases hr : (st.L t).length < size
    · rw [if_pos hr]
      refine ⟨⟨?_, ?_⟩, ?_⟩
      · intro u hu
        show (upd st.L _ _ u).length ≤ size
        rw [Int.toNat_natCast]
        by_cases e : u = t
        · subst e; rw [upd_same]; simp; omega
        · rw [upd_other _ _ _ _ e]; exact h.len u hu
      · intro u hu x hx
        replace hx : x ∈ upd st.L t (st.L t ++ [s]) u := hx
        by_cases e : u = t
        · subst e
          rw [upd_same] at hx
          rcases List.mem_append.1 hx with hx | hx
          · exact h.str u hu x hx
          · rw [List.mem_singleton.1 hx]; exact ⟨hs0, hs1⟩
        · rw [upd_other _ _ _ _ e] at hx; exact h.str u hu x hx
      · have := sum_upd st.L ht (st.L t ++ [s])
        simp only [List.length_append, List.length_singleton] at this
        show st.lost + (upd st.L t (st.L t ++ [s]) 0).length + (upd st.L t (st.L t ++ [s]) 1).length = _
        unfold total
        omega
    · rw [if_neg hr]
      refine ⟨⟨h.len, h.str⟩, ?_⟩
      show st.lost + 1 + (st.L 0).length + (st.L 1).length = _
      unfold total
      omega
  · rw [if_neg he, if_neg he]
    exact ⟨h, rfl⟩

theorem Ok.take {size : Nat} {st : St} (h : Ok size st) (dd i : Int) : Ok size (takeSt st dd i) ∧ total (takeSt st dd i) + (if inB (flyL st.L dd).length i = true then 1 else 0) = total st := by
  by_cases hi : inB (flyL st.L dd).length i = true
  · by_cases hd : inB 2 dd = true
    · obtain ⟨t, rfl, ht⟩ := in_of hd
      have hL : ∀ u, (takeSt st (t : Int) i).L u = upd st.L t (offL (st.L t) i) u := fun u => takeF_in st.L ht i u
      rw [if_pos hi]
      refine ⟨⟨?_, ?_⟩, ?_⟩
      · intro u hu
        rw [hL]
        by_cases e : u = t
        · subst e; rw [upd_same]; exact Nat.le_trans (offL_len _ _) (h.len u hu)
        · rw [upd_other _ _ _ _ e]; exact h.len u hu
      · intro u hu x hx
        rw [hL] at hx
        by_cases e : u = t
        · subst e
          rw [upd_same] at hx
          exact h.str u hu x (offL_mem hx)
        · rw [upd_other _ _ _ _ e] at hx; exact h.str u hu x hx
      · have h1 := sum_upd st.L ht (offL (st.L t) i)
        rw [fly_in _ ht] at hi
        have h2 := offL_len1 hi
        unfold total
        rw [hL, hL]
        show st.lost + _ + _ + 1 = _
        omega
    · rw [fly_no _ (by simpa using hd), show ([] : List ByteArray).length = 0 from rfl, in_zero] at hi
      cases hi
  · have e1 : takeSt st dd i = st := by rw [takeSt, takeF, if_neg hi]
    rw [e1, if_neg hi]
    exact ⟨h, rfl⟩

theorem drop_take {st : St} {dd i : Int} : dropSt st dd i = ⟨(takeSt st dd i).L, (takeSt st dd i).lost + (if inB (flyL st.L dd).length i = true then 1 else 0)⟩ := by
  by_cases hi : inB (flyL st.L dd).length i = true
  · rw [dropSt, if_pos hi, if_pos hi]; rfl
  · rw [dropSt, if_neg hi, if_neg hi, takeSt, takeF, if_neg hi]; rfl
theorem Ok.drop {size : Nat} {st : St} (h : Ok size st) (dd i : Int) : Ok size (dropSt st dd i) ∧ total (dropSt st dd i) = total st := by
  obtain ⟨h1, h2⟩ := h.take dd i
  rw [drop_take]
  refine ⟨⟨h1.len, h1.str⟩, ?_⟩
  unfold total at h2 ⊢
  simp only
  omega
theorem Ok.cut {size : Nat} {st : St} (h : Ok size st) : Ok size (cutSt st) ∧ total (cutSt st) = total st := by
  refine ⟨⟨fun _ _ => by simp [cutSt], fun _ _ x hx => by simp [cutSt] at hx⟩, ?_⟩
  unfold total cutSt
  simp
  omega

set_option maxHeartbeats 1000000 in
theorem awake_c (w : World) :
    Calls Try.prog 6 #[] w fun e w' => e = .returned (.bool true) ∧ Below w.heap.size w w' := by
  obtain ⟨e1, e2⟩ := awake_st1
  obtain ⟨e3, e4⟩ := awake_st2
  obtain ⟨e5, e6⟩ := awake_st3
  have E1 := hid e1
  have E2 := hid e2
  have E3 := hid e3
  have E4 := hid e4
  have E5 := hid e5
  have E6 := hid e6
  have O1 := hid ((Ok.new 2).send 1 ⟨#[97]⟩).1
  have O2 := hid (((Ok.new 2).send 1 ⟨#[97]⟩).1.send 1 ⟨#[98]⟩).1
  have l1 : Hid ((sendSt 2 ⟨fun _ => [], 0⟩ 1 ⟨#[97]⟩).lost ≤ 1000000) := (by decide : (sendSt 2 ⟨fun _ => [], 0⟩ 1 ⟨#[97]⟩).lost ≤ 1000000)
  clear e1 e2 e3 e4 e5 e6
  go_enter Try.func6, Try.ntmps6
  go_wp2_with fail
  refine (cnew_c w.heap.size 2 (by omega) _ (Nat.le_refl _)).mono ?_
  rintro e w1 ⟨rfl, h1, hB1⟩
  go_wp2_with fail
  refine (csend_c 1 ⟨#[97]⟩ _ w.heap.size 2 _ _ _ _ _ h1 (by omega) (fun _ _ => by simp) (by simp) hB1.size).mono ?_
  rintro e w2 ⟨rfl, ⟨aos2, caps2, h2, -⟩, hk2⟩
  have hB2 := hB1.trans (hk2.below hB1.size h1.footGe)
  rw [E1.out, E2.out]
  go_wp2_with fail
  refine (csend_c 1 ⟨#[98]⟩ _ w.heap.size 2 _ _ _ _ _ h2 (by omega) O1.out.len l1.out hB2.size).mono ?_
  rintro e w3 ⟨rfl, ⟨aos3, caps3, h3, -⟩, hk3⟩
  have hB3 := hB2.trans (hk3.below hB2.size h2.footGe)
  rw [E3.out, E4.out]
  go_wp2_with fail
  refine (ctake_c 1 1 _ w.heap.size 2 _ _ _ _ _ h3 (fun t ht => Nat.le_trans (O2.out.len t ht) (by omega))).mono ?_
  rintro e w4 ⟨rfl, ⟨aos4, caps4, h4, -⟩, hk4⟩
  have hB4 := hB3.trans (hk4.below hB3.size h3.footGe)
  rw [E5.out, E6.out]
  go_wp2_with fail
  go_ret
  exact ⟨rfl, hB4⟩

end Go.Proofs.Ytfifoikphhjomaa.Cb
