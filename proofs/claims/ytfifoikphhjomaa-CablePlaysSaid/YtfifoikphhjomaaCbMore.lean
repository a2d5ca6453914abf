/- What Send and Spoil of layer 8 (cable), and the document's Spoilt, return, and what they leave of the cable. -/
import Derived.Test.YtfifoikphhjomaaCbCalls
namespace Go.Proofs.Ytfifoikphhjomaa.Cb
open Go.RowKit Go.Proofs.Ytfifoikphhjomaa.Rg
set_option linter.unusedVariables false

theorem csend_nil (dd : Int) (s : ByteArray) (w : World) :
    Calls Try.prog 11 #[.pointer none, .int .i64 dd, .string s] w fun e w' => e = .returned (.tuple #[.bool false, .int .i64 2]) ∧ w = w' := by
  go_enter Try.func11, Try.ntmps11
  go_wp2_with fail
  go_ret2
  exact ⟨rfl, rfl⟩

theorem csend_no (dd : Int) (s : ByteArray) (b : Nat) (w : World) (h : inB 2 dd = false) :
    Calls Try.prog 11 #[.pointer (some ⟨b, 0, none⟩), .int .i64 dd, .string s] w fun e w' => e = .returned (.tuple #[.bool false, .int .i64 1]) ∧ w = w' := by
  have H := hid h
  clear h
  go_enter Try.func11, Try.ntmps11
  go_wp2_with (go_at_call 24; ((with_reducible refine (isEnd_c _ _).mono ?_); rintro e w' ⟨rfl, rfl⟩; rw [H.out]))
  go_ret2
  exact ⟨rfl, rfl⟩

theorem csend_empty (dd : Int) (s : ByteArray) (b : Nat) (w : World) (h : inB 2 dd = true) (h0 : s.size = 0) :
    Calls Try.prog 11 #[.pointer (some ⟨b, 0, none⟩), .int .i64 dd, .string s] w fun e w' => e = .returned (.tuple #[.bool false, .int .i64 1]) ∧ w = w' := by
  have H := hid h
  have hz : ((s.size : Int) == 0) = true := by rw [beq_iff_eq]; omega
  clear h h0
  go_enter Try.func11, Try.ntmps11
  go_wp2_with (go_at_call 24; ((with_reducible refine (isEnd_c _ _).mono ?_); rintro e w' ⟨rfl, rfl⟩; rw [H.out]))
  go_ret2
  exact ⟨rfl, rfl⟩

theorem csend_long (dd : Int) (s : ByteArray) (b : Nat) (w : World) (h : inB 2 dd = true) (h0 : 256 < s.size) :
    Calls Try.prog 11 #[.pointer (some ⟨b, 0, none⟩), .int .i64 dd, .string s] w fun e w' => e = .returned (.tuple #[.bool false, .int .i64 5]) ∧ w = w' := by
  have H := hid h
  have hz : ((s.size : Int) == 0) = false := by rw [beq_eq_false_iff_ne]; omega
  have hy : decide (256 < (s.size : Int)) = true := by simp; omega
  clear h h0
  go_enter Try.func11, Try.ntmps11
  go_wp2_with (go_at_call 24; ((with_reducible refine (isEnd_c _ _).mono ?_); rintro e w' ⟨rfl, rfl⟩; rw [H.out]))
  go_ret2
  exact ⟨rfl, rfl⟩

set_option maxHeartbeats 1000000 in
theorem csend_room (t : Nat) (s : ByteArray) (w : World) (n₀ size b : Nat) (bs : Nat → Nat) (aos : Nat → Option Addr) (caps : Nat → Nat) (st : St) (h : Cab w n₀ size b bs aos caps st) (ht : t < 2) (h0 : s.size ≠ 0) (h1 : s.size ≤ 256) (hs : size ≤ 4096) (hl : (st.L t).length < size) (hn : n₀ ≤ w.heap.size) :
    Calls Try.prog 11 #[.pointer (some ⟨b, 0, none⟩), .int .i64 t, .string s] w fun e w' => e = .returned (.tuple #[.bool true, .int .i64 0]) ∧ Left n₀ size b bs aos ⟨upd st.L t (st.L t ++ [s]), st.lost⟩ w w' := by
  have H := hid (in_in ht)
  have hz : ((s.size : Int) == 0) = false := by rw [beq_eq_false_iff_ne]; omega
  have hy : decide (256 < (s.size : Int)) = false := by simp; omega
  have hc := h.cell ht
  have Hp : Hid (∀ w1, Below w.heap.size w w1 → Calls Try.prog 25 #[.pointer (some ⟨bs t, 0, none⟩), .string s] w1 fun e w' => e = .returned (.int .i64 0) ∧ Left n₀ size b bs aos ⟨upd st.L t (st.L t ++ [s]), st.lost⟩ w w') := by
    intro w1 hB
    have h1 := h.old hB
    refine (spush_c s n₀ (bs t) size (caps t) (aos t) (st.L t) w1 (h1.ring t ht) hs hl (Nat.le_trans hn hB.size)).mono ?_
    rintro e w' ⟨rfl, ao', cap', h2, hn2, hk2⟩
    obtain ⟨h3, hn3, hk3⟩ := h1.step ht h2 hn2 hk2
    exact ⟨rfl, Left.trans (Nears.refl _ _) (Keeps.ofOld hB _) ⟨⟨_, _, h3, hn3⟩, hk3⟩⟩
  have Hc : Hid (∀ w1, Below w.heap.size w w1 → w1.cell? ⟨b, t, none⟩ = some (.pointer (some ⟨bs t, 0, none⟩))) := fun w1 hB => (h.old hB).cell ht
  have Hl : Hid (∀ w1, Left n₀ size b bs aos ⟨upd st.L t (st.L t ++ [s]), st.lost⟩ w w1 → w1.cell? ⟨b, t, none⟩ = some (.pointer (some ⟨bs t, 0, none⟩))) := fun w1 ⟨⟨_, _, hx, _⟩, _⟩ => hx.cell ht
  have h1' : s.size ≤ 1048576 := by omega
  have i0 : (0 : Int) ≤ (t : Int) := by omega
  have i1 : (t : Int) < 2 := by omega
  clear h h0 h1
  go_enter Try.func11, Try.ntmps11
  go_upto_region 7 with (go_at_call 24; ((with_reducible refine (isEnd_c _ _).mono ?_); rintro e w' ⟨rfl, rfl⟩; rw [H.out]))
  go_region_held3 (fun w' => w'.cell? ⟨b, t, none⟩ = some (.pointer (some ⟨bs t, 0, none⟩)))
    (first | go_keep | exact Hl.out _ hL2 | exact Hc.out _ hB2)
    (first
      | (go_at_call 26; ((with_reducible refine (clone_c _ _ h1').mono ?_); rintro e w1 ⟨rfl, hB1⟩; have hB2 : Below w.heap.size w w1 := ⟨hB1.os, hB1.tape, hB1.output, hB1.size, hB1.block⟩))
      | (go_at_call 25; ((with_reducible refine (Hp.out _ hB2).mono ?_); rintro e w2 ⟨rfl, hL2⟩)))
  go_wp2_with fail
  go_ret2
  exact ⟨rfl, hL2⟩

set_option maxHeartbeats 1000000 in
theorem csend_full (t : Nat) (s : ByteArray) (w : World) (n₀ size b : Nat) (bs : Nat → Nat) (aos : Nat → Option Addr) (caps : Nat → Nat) (st : St) (h : Cab w n₀ size b bs aos caps st) (ht : t < 2) (h0 : s.size ≠ 0) (h1 : s.size ≤ 256) (hs : size ≤ 4096) (hl : (st.L t).length = size) (hlost : st.lost ≤ 1000000) :
    Calls Try.prog 11 #[.pointer (some ⟨b, 0, none⟩), .int .i64 t, .string s] w fun e w' => e = .returned (.tuple #[.bool false, .int .i64 0]) ∧ Left n₀ size b bs aos ⟨st.L, st.lost + 1⟩ w w' := by
  have H := hid (in_in ht)
  have hz : ((s.size : Int) == 0) = false := by rw [beq_eq_false_iff_ne]; omega
  have hy : decide (256 < (s.size : Int)) = false := by simp; omega
  have hc := h.cell ht
  have Hp : Hid (∀ w1, Below w.heap.size w w1 → Calls Try.prog 25 #[.pointer (some ⟨bs t, 0, none⟩), .string s] w1 fun e w' => e = .returned (.int .i64 8) ∧ Below w.heap.size w w') := by
    intro w1 hB
    refine (spush_full s n₀ (bs t) size (caps t) (aos t) (st.L t) w1 ((h.old hB).ring t ht) hs hl).mono ?_
    rintro e w' ⟨rfl, q, rfl⟩
    exact ⟨rfl, hB.os, hB.tape, hB.output, hB.size, hB.block⟩
  have Hc : Hid (∀ w1, Below w.heap.size w w1 → w1.cell? ⟨b, t, none⟩ = some (.pointer (some ⟨bs t, 0, none⟩))) := fun w1 hB => (h.old hB).cell ht
  have Hd : Hid (∀ w1, Below w.heap.size w w1 → w1.cell? ⟨b, 2, none⟩ = some (.int .i64 st.lost) ∧ w1.frozen? ⟨b, 2, none⟩ = false) := fun w1 hB => ⟨(h.old hB).cell2, (h.old hB).frozen 2⟩
  have h1' : s.size ≤ 1048576 := by omega
  have i0 : (0 : Int) ≤ (t : Int) := by omega
  have i1 : (t : Int) < 2 := by omega
  have HC := hid h
  clear h h0 h1 hl
  go_enter Try.func11, Try.ntmps11
  go_upto_region 7 with (go_at_call 24; ((with_reducible refine (isEnd_c _ _).mono ?_); rintro e w' ⟨rfl, rfl⟩; rw [H.out]))
  go_region_held3 (fun w' => w'.cell? ⟨b, t, none⟩ = some (.pointer (some ⟨bs t, 0, none⟩)))
    (first | go_keep | exact Hc.out _ hB3 | exact Hc.out _ hB2)
    (first
      | (go_at_call 26; ((with_reducible refine (clone_c _ _ h1').mono ?_); rintro e w1 ⟨rfl, hB1⟩; have hB2 : Below w.heap.size w w1 := ⟨hB1.os, hB1.tape, hB1.output, hB1.size, hB1.block⟩))
      | (go_at_call 25; ((with_reducible refine (Hp.out _ hB2).mono ?_); rintro e w2 ⟨rfl, hB3⟩; obtain ⟨d2, f2⟩ := Hd.out _ hB3)))
  go_wp2_with fail
  go_ret2
  obtain ⟨h4, hk4⟩ := (HC.out.old hB3).count (st.lost + 1)
  exact ⟨rfl, Left.trans (Nears.refl _ _) (Keeps.ofOld hB3 _) ⟨⟨_, _, h4, Nears.refl _ _⟩, hk4⟩⟩

theorem csend_c (dd : Int) (s : ByteArray) (w : World) (n₀ size b : Nat) (bs : Nat → Nat) (aos : Nat → Option Addr) (caps : Nat → Nat) (st : St) (h : Cab w n₀ size b bs aos caps st) (hs : size ≤ 4096) (hL : ∀ t, t < 2 → (st.L t).length ≤ size) (hlost : st.lost ≤ 1000000) (hn : n₀ ≤ w.heap.size) :
    Calls Try.prog 11 #[.pointer (some ⟨b, 0, none⟩), .int .i64 dd, .string s] w fun e w' => e = .returned (.tuple #[.bool (sendB size st dd s), .int .i64 (sendE dd s)]) ∧ Left n₀ size b bs aos (sendSt size st dd s) w w' := by
  by_cases hB : inB 2 dd = true
  · by_cases h0 : s.size = 0
    · have e : sendE dd s = 1 := by simp [sendE, h0]
      rw [sendSt, sendB, e, if_neg (by omega)]
      refine (csend_empty dd s b w hB h0).mono ?_
      rintro e w' ⟨rfl, rfl⟩
      exact ⟨rfl, Left.same h (Below.refl _ _)⟩
    · by_cases h1 : 256 < s.size
      · have e : sendE dd s = 5 := by simp [sendE, hB, h0, h1]
        rw [sendSt, sendB, e, if_neg (by omega)]
        refine (csend_long dd s b w hB h1).mono ?_
        rintro e w' ⟨rfl, rfl⟩
        exact ⟨rfl, Left.same h (Below.refl _ _)⟩
      · have e : sendE dd s = 0 := by simp [sendE, hB, h0, h1]
        obtain ⟨t, rfl, ht⟩ := in_of hB
        rw [sendSt, sendB, e, if_pos rfl, fly_in _ ht]
        by_cases hr : (st.L t).length < size
        · rw [if_pos hr]
          refine (csend_room t s w n₀ size b bs aos caps st h ht h0 (by omega) hs hr hn).mono ?_
          rintro e w' ⟨rfl, h2⟩
          exact ⟨by simp [hr], by simpa using h2⟩
        · rw [if_neg hr]
          refine (csend_full t s w n₀ size b bs aos caps st h ht h0 (by omega) hs (by have := hL t ht; omega) hlost).mono ?_
          rintro e w' ⟨rfl, h2⟩
          exact ⟨by simp [hr], h2⟩
  · have hB' : inB 2 dd = false := by simpa using hB
    have e : sendE dd s = 1 := by simp [sendE, hB']
    rw [sendSt, sendB, e, if_neg (by omega)]
    refine (csend_no dd s b w hB').mono ?_
    rintro e w' ⟨rfl, rfl⟩
    exact ⟨rfl, Left.same h (Below.refl _ _)⟩

end Go.Proofs.Ytfifoikphhjomaa.Cb
