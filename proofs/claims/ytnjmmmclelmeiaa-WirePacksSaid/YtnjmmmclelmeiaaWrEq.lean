/- Whether two slices of bytes read alike: what slices.Equal and the document's Same of layer 6 return. -/
import Derived.Test.YtnjmmmclelmeiaaWrBox
namespace Go.Proofs.Ytnjmmmclelmeiaa.Wr
open Go.RowKit Go.Proofs.Ytnjmmmclelmeiaa.Fx Go.Proofs.Ytnjmmmclelmeiaa.Pk

theorem take_same {l k : List UInt8} {n : Nat} (h : l.take n = k.take n) (hl : n < l.length) (hk : n < k.length) (he : l[n] = k[n]) : l.take (n + 1) = k.take (n + 1) := by
  rw [List.take_succ_eq_append_getElem hl, List.take_succ_eq_append_getElem hk, h, he]
theorem take_all {l k : List UInt8} {n : Nat} (h : l.take n = k.take n) (hl : ¬ n < l.length) (hk : l.length = k.length) : l = k := by
  rwa [List.take_of_length_le (by omega), List.take_of_length_le (by omega)] at h
theorem at_no {l k : List UInt8} {n : Nat} (hl : n < l.length) (hk : n < k.length) (he : l[n] ≠ k[n]) : l ≠ k := by
  rintro rfl; exact he rfl
theorem eqL_yes {l k : List UInt8} (h : l = k) : decide (l = k) = true := by simpa using h
theorem eqL_no {l k : List UInt8} (h : l ≠ k) : decide (l = k) = false := by simpa using h

set_option maxHeartbeats 1000000 in
theorem equal_c (v u : Value) (l k : List UInt8) (w : World) (h : Rd w v l) (h' : Rd w u k) :
    Calls Try.prog 37 #[v, u] w fun e w' => e = .returned (.bool (decide (l = k))) ∧ ∃ q, w' = w.drewN q := by
  obtain ⟨ao, L, cap, rfl, hL, hc, hm, ht⟩ := h
  obtain ⟨ao', L', cap', rfl, hL', hc', hm', ht'⟩ := h'
  by_cases hLL : L = L'
  · subst hLL
    have HL := hid hL
    have HL' := hid hL'
    clear hL hL'
    go_enter Try.func37, Try.ntmps37
    go_wp2
    go_loopw [13] (fun i wr => ∃ n q : Nat, n ≤ L ∧ i = .int .i64 n ∧ wr = w.drewN q ∧ Hid (l.take n = k.take n)) (fun i _ => L - (intOf i).toNat)
    case atStart => exact ⟨0, 0, Nat.zero_le _, rfl, rfl, hid rfl⟩
    case round =>
      obtain ⟨n, q, hn, rfl, rfl, hs⟩ := hrel
      by_cases hlt : n < L
      · have hl1 : n < l.length := by rw [HL.out]; exact hlt
        have hk1 : n < k.length := by rw [HL'.out]; exact hlt
        obtain ⟨b, o, rfl, hcell⟩ := ht.at_ n hl1
        obtain ⟨b', o', rfl, hcell'⟩ := ht'.at_ n hk1
        have hn0 : (0 : Int) ≤ (n : Int) := by omega
        have hn1 : (n : Int) < (L : Int) := by omega
        by_cases he : l[n] = k[n]
        · have hq := hid (take_same hs.out hl1 hk1 he)
          have hb : ((l[n].toNat : Int) != (k[n].toNat : Int)) = false := by rw [he]; simp
          generalize l[n] = x at hcell hb
          generalize k[n] = y at hcell' hb
          clear ht ht' he
          go_wp2_with fail
          go_quiet (fail)
          go_wp2_with fail
          go_roundw
          case rel => exact ⟨n + 1, _, by omega, by go_num, rfl, hq⟩
          case measure => simp [intOf]; omega
        · have hq := hid (eqL_no (at_no hl1 hk1 he))
          have hb : ((l[n].toNat : Int) != (k[n].toNat : Int)) = true := by rw [bne, toNat_eqB]; simpa using he
          generalize l[n] = x at hcell hb
          generalize k[n] = y at hcell' hb
          clear ht ht' he
          go_wp2_with fail
          go_quiet (fail)
          go_wp2_with fail
          go_ret
          exact ⟨ret_bool hq.out.symm, _, World.drewN_drewN _ _ _⟩
      · have hq := hid (eqL_yes (take_all hs.out (by rw [HL.out]; exact hlt) (by rw [HL.out, HL'.out])))
        clear ht ht'
        go_wp2_with fail
        go_ret
        exact ⟨ret_bool hq.out.symm, q, rfl⟩
  · have hq := hid (eqL_no (l := l) (k := k) (fun e => hLL (by rw [← hL, ← hL', e])))
    have hne : ((L : Int) != (L' : Int)) = true := by simp; omega
    clear hL hL' ht ht' hLL
    go_enter Try.func37, Try.ntmps37
    go_wp2
    go_ret
    exact ⟨ret_bool hq.out.symm, 0, rfl⟩

set_option maxHeartbeats 1000000 in
theorem same06_c (v u : Value) (l k : List UInt8) (w : World) (h : Rd w v l) (h' : Rd w u k) :
    Calls Try.prog 34 #[v, u] w fun e w' => e = .returned (.bool (decide (l = k))) ∧ ∃ q, w' = w.drewN q := by
  obtain ⟨ao, L, cap, rfl, hL, hc, hm, ht⟩ := h
  obtain ⟨ao', L', cap', rfl, hL', hc', hm', ht'⟩ := h'
  by_cases hLL : L = L'
  · subst hLL
    have HL := hid hL
    have HL' := hid hL'
    clear hL hL'
    go_enter Try.func34, Try.ntmps34
    go_wp2
    go_loopw [5] (fun i wr => ∃ n q : Nat, n ≤ L ∧ i = .int .i64 n ∧ wr = w.drewN q ∧ Hid (l.take n = k.take n)) (fun i _ => L - (intOf i).toNat)
    case atStart => exact ⟨0, 0, Nat.zero_le _, rfl, rfl, hid rfl⟩
    case round =>
      obtain ⟨n, q, hn, rfl, rfl, hs⟩ := hrel
      by_cases hlt : n < L
      · have hl1 : n < l.length := by rw [HL.out]; exact hlt
        have hk1 : n < k.length := by rw [HL'.out]; exact hlt
        obtain ⟨b, o, rfl, hcell⟩ := ht.at_ n hl1
        obtain ⟨b', o', rfl, hcell'⟩ := ht'.at_ n hk1
        have hn0 : (0 : Int) ≤ (n : Int) := by omega
        have hn1 : (n : Int) < (L : Int) := by omega
        by_cases he : l[n] = k[n]
        · have hq := hid (take_same hs.out hl1 hk1 he)
          have hb : ((l[n].toNat : Int) != (k[n].toNat : Int)) = false := by rw [he]; simp
          generalize l[n] = x at hcell hb
          generalize k[n] = y at hcell' hb
          clear ht ht' he
          go_wp2_with fail
          go_quiet (fail)
          go_wp2_with fail
          go_roundw
          case rel => exact ⟨n + 1, _, by omega, by go_num, rfl, hq⟩
          case measure => simp [intOf]; omega
        · have hq := hid (eqL_no (at_no hl1 hk1 he))
          have hb : ((l[n].toNat : Int) != (k[n].toNat : Int)) = true := by rw [bne, toNat_eqB]; simpa using he
          generalize l[n] = x at hcell hb
          generalize k[n] = y at hcell' hb
          clear ht ht' he
          go_wp2_with fail
          go_quiet (fail)
          go_wp2_with fail
          go_ret
          exact ⟨ret_bool hq.out.symm, _, World.drewN_drewN _ _ _⟩
      · have hq := hid (eqL_yes (take_all hs.out (by rw [HL.out]; exact hlt) (by rw [HL.out, HL'.out])))
        clear ht ht'
        go_wp2_with fail
        go_ret
        exact ⟨ret_bool hq.out.symm, q, rfl⟩
  · have hq := hid (eqL_no (l := l) (k := k) (fun e => hLL (by rw [← hL, ← hL', e])))
    have hne : ((L : Int) != (L' : Int)) = true := by simp; omega
    clear hL hL' ht ht' hLL
    go_enter Try.func34, Try.ntmps34
    go_wp2
    go_ret
    exact ⟨ret_bool hq.out.symm, 0, rfl⟩

end Go.Proofs.Ytnjmmmclelmeiaa.Wr
