/- What Bytes returns (layer 11, event). -/
import Derived.Test.YtfkbkfaiplhehaaEvBy
namespace Go.Proofs.Ytfkbkfaiplhehaa.Ev
open Go.RowKit
open Ytfkbkfaiplhehaa.Pk (numL num_pos num_len10 sgnN)
set_option linter.unusedVariables false

/-- the bytes of an event, and of a list of them. -/
def evL (x : Ev) : List UInt8 := numsL [x.key.f.toNat, x.key.e.toNat, x.key.k.toNat, x.key.o.toNat, x.a.toNat, x.g.toNat] ++ numL (sgnN x.p) ++ numsL [x.r.toNat, x.l.toNat]
def evsL (l : List Ev) : List UInt8 := numL l.length ++ l.flatMap evL
theorem ev_nat {x : Ev} (h : evB x = true) : (x.key.f = (x.key.f.toNat : Int) ∧ x.key.e = (x.key.e.toNat : Int) ∧ x.key.k = (x.key.k.toNat : Int) ∧ x.key.o = (x.key.o.toNat : Int) ∧ x.a = (x.a.toNat : Int) ∧ x.g = (x.g.toNat : Int) ∧ x.r = (x.r.toNat : Int) ∧ x.l = (x.l.toNat : Int)) ∧
    (x.key.f.toNat ≤ 1073741824 ∧ x.key.e.toNat ≤ 2 ∧ x.key.k.toNat ≤ 9 ∧ x.key.o.toNat ≤ 15 ∧ x.a.toNat ≤ 31 ∧ x.g.toNat ≤ 32768 ∧ x.r.toNat ≤ 15 ∧ x.l.toNat ≤ 600) ∧ -32768 ≤ x.p ∧ x.p ≤ 32768 := by
  unfold evB keyB inB at h
  simp only [Bool.and_eq_true, decide_eq_true_eq] at h
  omega
theorem sgn_bd {p : Int} (h0 : -32768 ≤ p) (h1 : p ≤ 32768) : sgnN p < 18446744073709551616 := by unfold sgnN; split <;> omega
theorem evl_len (x : Ev) (h : evB x = true) : (evL x).length ≤ 90 := by
  obtain ⟨_, hb, hp, hq⟩ := ev_nat h
  unfold evL
  have h1 := nums_len [x.key.f.toNat, x.key.e.toNat, x.key.k.toNat, x.key.o.toNat, x.a.toNat, x.g.toNat] (by intro n hn; simp at hn; omega)
  have h2 := nums_len [x.r.toNat, x.l.toNat] (by intro n hn; simp at hn; omega)
  have h3 := num_len10 (sgnN x.p) (sgn_bd hp hq)
  simp only [List.length_append, List.length_cons, List.length_nil] at *
  omega
theorem evs_len : ∀ (l : List Ev), l.all evB = true → (l.flatMap evL).length ≤ 90 * l.length
  | [], _ => by simp
  | x :: l, h => by
    simp only [List.all_cons, Bool.and_eq_true] at h
    have h1 := evl_len x h.1
    have h2 := evs_len l h.2
    rw [List.flatMap_cons, List.length_append, List.length_cons]
    omega

set_option maxRecDepth 100000 in
set_option maxHeartbeats 1000000 in
theorem bytes_no (v : Value) (l : List Ev) (w : World) (h : Evs w v l) (hO : ordB l = false) :
    Calls Try.prog 28 #[v] w fun e w' => e = .returned (.tuple #[.string ⟨#[]⟩, .int .i64 1]) ∧ Below w.heap.size w w' := by
  have HO := hid (ordered_c v l w h)
  rw [hO] at HO
  go_enter Try.func28, Try.ntmps28
  go_wp2_with (go_at_call 16; ((with_reducible refine HO.out.mono ?_); rintro e w1 ⟨rfl, g1⟩))
  go_ret2
  exact ⟨rfl, g1⟩

set_option maxRecDepth 100000 in
set_option maxHeartbeats 4000000 in
theorem bytes_yes (v : Value) (l : List Ev) (w : World) (h : Evs w v l) (hO : l.all evB = true ∧ up (keys l) ∧ l.length ≤ 64) :
    Calls Try.prog 28 #[v] w fun e w' => e = .returned (.tuple #[.string ⟨(evsL l).toArray⟩, .int .i64 0]) ∧ Below w.heap.size w w' := by
  have HO := hid (ordered_c v l w h)
  rw [show ordB l = true by unfold ordB; simp [hO.1, hO.2.1, hO.2.2]] at HO
  obtain ⟨hA, hU, h64⟩ := hO
  obtain ⟨ao, L, cap, rfl, hL, hc, hm, ht⟩ := h
  have HL := hid hL
  have HT := hid ht
  have HA := hid hA
  have hl64 : L ≤ 64 := by omega
  have hn10 := num_len10 L (by omega)
  have hone : Hid (numsL [L] = numL L) := hid (by simp [numsL])
  clear hL ht hA hU h64
  go_enter Try.func28, Try.ntmps28
  go_wp2_with (first
    | (go_at_call 16; ((with_reducible refine HO.out.mono ?_); rintro e w1 ⟨rfl, g1⟩; have HN := hid (bld_new w1); have HB := hid (bal (br w1) (.cells #[.pointer none, .slice none 0 0] 87)); have HI := hid (ints_one (At.newAt (w1.alloc (.cells #[.pointer none, .slice none 0 0] 87)) #[.int .i64 (L : Int)] 3 (n := w1.heap.size + 1) (by simp)) rfl)))
    | (go_at_call 52; ((with_reducible refine (numbers_c _ [L] _ HI.out (by simp) (by intro n hn; simp at hn; omega)).mono ?_); rintro e w2 ⟨rfl, g2⟩; have HD2 := hid ((HN.out.below (bal (br _) (.cells #[.int .i64 (L : Int)] 3))).below g2); have HB2 := hid (bt (bal HB.out (.cells #[.int .i64 (L : Int)] 3)) g2)))
    | (go_at_call 51; ((with_reducible refine (write_c _ _ _ _ _ HD2.out (by rw [hone.out]; simp; omega) HB2.out.size).mono ?_); rintro e w3 ⟨rfl, hD3, g3, k3⟩)))
  have HD3 := hid hD3
  rw [hone.out] at HD3
  have HW1 := hid g1
  have HB13 := hid (HB2.out.trans g3)
  clear HD2 HN HI HB HB2 g1 g2 g3 k3 HO hD3
  go_loopw [17] (fun i wr => ∃ k : Nat, k ≤ L ∧ i = .int .i64 k ∧ Bld w1.heap.size w1.heap.size (numL L ++ (l.take k).flatMap evL) wr ∧ Below w1.heap.size w1 wr) (fun i _ => L - (intOf i).toNat)
  case atStart => exact ⟨0, Nat.zero_le _, rfl, by simpa using HD3.out, HB13.out⟩
  case round =>
    obtain ⟨k, hk, rfl, hD, hBw⟩ := hrel
    have HD := hid hD
    have HG := hid hBw
    by_cases hlt : k < L
    · obtain ⟨x, hx⟩ := get_lt HL.out hlt
      obtain ⟨b, o, rfl, hb, c0, c1, c2, c3, c4, c5, c6, c7, c8⟩ := ((HT.out.below HW1.out).below hBw).ev hx
      have hE : evB x = true := (List.all_eq_true.1 HA.out) x (List.mem_of_getElem? hx)
      have hk1 : (k : Int) < (L : Int) := by omega
      have hk0 : (0 : Int) ≤ (k : Int) := by omega
      have HS : Hid (numL L ++ (l.take (k + 1)).flatMap evL = numL L ++ (l.take k).flatMap evL ++ numsL [x.key.f.toNat, x.key.e.toNat, x.key.k.toNat, x.key.o.toNat, x.a.toNat, x.g.toNat] ++ numL (sgnN x.p) ++ numsL [x.r.toNat, x.l.toNat]) := hid (by rw [← take_snoc hx, List.flatMap_append, List.flatMap_singleton]; unfold evL; simp only [List.append_assoc])
      have hlen : (numL L ++ (l.take k).flatMap evL).length ≤ 10000 := by
        have h1 := evs_len (l.take k) (by
          rw [List.all_eq_true]
          exact fun y hy => (List.all_eq_true.1 HA.out) y (List.mem_of_mem_take hy))
        have h2 : (l.take k).length ≤ 64 := by rw [List.length_take]; have := HL.out; omega
        rw [List.length_append]
        omega
      generalize numL L ++ (l.take k).flatMap evL = acc at HD hD hlen HS
      obtain ⟨hF, hBd, hp0, hp1⟩ := ev_nat hE
      have HF := hid hF
      have HBd := hid hBd
      clear hF hBd
      have hsg := hid (sgn_bd hp0 hp1)
      have l6 := nums_len [x.key.f.toNat, x.key.e.toNat, x.key.k.toNat, x.key.o.toNat, x.a.toNat, x.g.toNat] (by intro n hn; have := HBd.out; simp at hn; omega)
      have l2 := nums_len [x.r.toNat, x.l.toNat] (by intro n hn; have := HBd.out; simp at hn; omega)
      have l3 := num_len10 (sgnN x.p) hsg.out
      simp only [List.length_cons, List.length_nil] at l6 l2
      have aE := At.new wr #[.int .i64 x.key.f, .int .i64 x.key.e, .int .i64 x.key.k, .int .i64 x.key.o, .int .i64 x.a, .int .i64 x.g, .int .i64 x.p, .int .i64 x.r, .int .i64 x.l] 31
      have HAE := hid aE
      have g0 := bal (bal (br wr) (.cells #[.int .i64 x.key.f, .int .i64 x.key.e, .int .i64 x.key.k, .int .i64 x.key.o, .int .i64 x.a, .int .i64 x.g, .int .i64 x.p, .int .i64 x.r, .int .i64 x.l] 31)) (.cells #[.int .i64 x.key.f, .int .i64 x.key.e, .int .i64 x.key.k, .int .i64 x.key.o, .int .i64 x.a, .int .i64 x.g] 3)
      have HI6 := hid (ints_six (At.newAt (wr.alloc (.cells #[.int .i64 x.key.f, .int .i64 x.key.e, .int .i64 x.key.k, .int .i64 x.key.o, .int .i64 x.a, .int .i64 x.g, .int .i64 x.p, .int .i64 x.r, .int .i64 x.l] 31)) #[.int .i64 x.key.f, .int .i64 x.key.e, .int .i64 x.key.k, .int .i64 x.key.o, .int .i64 x.a, .int .i64 x.g] 3 (n := wr.heap.size + 1) (by simp)) HF.out.1 HF.out.2.1 HF.out.2.2.1 HF.out.2.2.2.1 HF.out.2.2.2.2.1 HF.out.2.2.2.2.2.1)
      have HG0 := hid g0
      have hbw : w1.heap.size < wr.heap.size := by
        rcases hD with hh | hh
        · obtain ⟨_, _, hh, _⟩ := hh; exact (Array.getElem?_eq_some_iff.1 hh).1
        · obtain ⟨_, _, hh, _⟩ := hh; exact (Array.getElem?_eq_some_iff.1 hh).1
      have hwl : w1.heap.size ≤ wr.heap.size := by omega
      have hne : wr.heap.size ≠ w1.heap.size := by omega
      clear hx hD hBw aE g0 hE
      go_wp2_with (first
        | (go_at_call 52; ((with_reducible refine (numbers_c _ [x.key.f.toNat, x.key.e.toNat, x.key.k.toNat, x.key.o.toNat, x.a.toNat, x.g.toNat] _ HI6.out (by simp) (by intro n hn; have := HBd.out; simp at hn; omega)).mono ?_); rintro e w2 ⟨rfl, g2⟩; have G2 := hid (bt HG0.out g2); have HD2 := hid (HD.out.below G2.out); have HA2 := hid ((HAE.out.more (.cells #[.int .i64 x.key.f, .int .i64 x.key.e, .int .i64 x.key.k, .int .i64 x.key.o, .int .i64 x.a, .int .i64 x.g] 3)).below g2); have s2 : w1.heap.size ≤ w2.heap.size := Nat.le_trans hwl G2.out.size))
        | (go_at_call 51; ((with_reducible refine (write_c _ _ _ (numsL [x.key.f.toNat, x.key.e.toNat, x.key.k.toNat, x.key.o.toNat, x.a.toNat, x.g.toNat]) _ HD2.out (by omega) s2).mono ?_); rintro e w3 ⟨rfl, hD3', g3, k3⟩; have HA3 := hid (HA2.out.keptO k3 hne (by decide)); obtain ⟨_, _, _, _, _, _, e6, _, _⟩ := HA3.out.nine; have s3 : w1.heap.size ≤ w3.heap.size := Nat.le_trans s2 g3.size; have G3 := hid (HG.out.trans ((G2.out.mono hwl).trans g3)); have HDD3 := hid hD3'; clear hD3'))
        | (go_at_call 53; ((with_reducible refine (Pk.signed_c x.p _ (by omega) (by omega)).mono ?_); rintro e w4 ⟨rfl, g4⟩; have HD4 := hid (HDD3.out.below g4); have HA4 := hid (HA3.out.below g4); have s4 : w1.heap.size ≤ w4.heap.size := Nat.le_trans s3 g4.size))
        | (go_at_call 51; ((with_reducible refine (write_c _ _ _ (numL (sgnN x.p)) _ HD4.out (by simp only [List.length_append]; omega) s4).mono ?_); rintro e w5 ⟨rfl, hD5', g5, k5⟩; have HA5 := hid (HA4.out.keptO k5 hne (by decide)); obtain ⟨_, _, _, _, _, _, _, f7, f8⟩ := HA5.out.nine; have s5 : w1.heap.size ≤ w5.heap.size := Nat.le_trans s4 g5.size; have G5 := hid (G3.out.trans ((g4.mono s3).trans g5)); have HD5 := hid hD5'; clear hD5'; have HI2 := hid (ints_two (At.new w5 #[.int .i64 x.r, .int .i64 x.l] 3) HF.out.2.2.2.2.2.2.1 HF.out.2.2.2.2.2.2.2)))
        | (go_at_call 52; ((with_reducible refine (numbers_c _ [x.r.toNat, x.l.toNat] _ HI2.out (by simp) (by intro n hn; have := HBd.out; simp at hn; omega)).mono ?_); rintro e w6 ⟨rfl, g6⟩; have G6 := hid (bt (bal (br w5) (.cells #[.int .i64 x.r, .int .i64 x.l] 3)) g6); have HD6 := hid (HD5.out.below G6.out); have s6 : w1.heap.size ≤ w6.heap.size := Nat.le_trans s5 G6.out.size))
        | (go_at_call 51; ((with_reducible refine (write_c _ _ _ (numsL [x.r.toNat, x.l.toNat]) _ HD6.out (by simp only [List.length_append]; omega) s6).mono ?_); rintro e w7 ⟨rfl, hD7', g7, k7⟩; have HD7 := hid hD7'; have G7 := hid (G5.out.trans ((G6.out.mono s5).trans g7)); clear hD7')))
      go_roundw
      case rel =>
        refine ⟨k + 1, by omega, by go_num, ?_, G7.out⟩
        rw [HS.out]
        exact HD7.out
      case measure => simp [intOf]; omega
    · have htk : l.take k = l := List.take_of_length_le (by have := HL.out; omega)
      have hd0 : decide ((k : Int) < (L : Int)) = false := by simp; omega
      have HEq : Hid (evsL l = numL L ++ (l.take k).flatMap evL) := hid (by unfold evsL; rw [htk, HL.out])
      clear htk hD hBw
      rw [← HEq.out] at HD
      go_wp2_with (go_at_call 54; ((with_reducible refine (string_c _ _ _ _ HD.out HG.out.size).mono ?_); rintro e w2 ⟨rfl, g2⟩))
      go_ret2
      exact ⟨rfl, bt HW1.out (HG.out.trans g2)⟩

theorem bytes_c (v : Value) (l : List Ev) (w : World) (h : Evs w v l) :
    Calls Try.prog 28 #[v] w fun e w' => e = .returned (if ordB l = true then .tuple #[.string ⟨(evsL l).toArray⟩, .int .i64 0] else .tuple #[.string ⟨#[]⟩, .int .i64 1]) ∧ Below w.heap.size w w' := by
  by_cases hO : ordB l = true
  · rw [if_pos hO]
    have h2 := hO
    unfold ordB at h2
    simp only [Bool.and_eq_true, decide_eq_true_eq] at h2
    exact bytes_yes v l w h ⟨h2.1.1, h2.1.2, h2.2⟩
  · rw [if_neg hO]
    exact bytes_no v l w h (by simpa using hO)

end Go.Proofs.Ytfkbkfaiplhehaa.Ev
