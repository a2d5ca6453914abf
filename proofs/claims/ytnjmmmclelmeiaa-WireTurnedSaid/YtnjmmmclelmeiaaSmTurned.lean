/- The statement SumTurned of layer 5 (sum), as a walk: the law, called with any bytes, any place and any byte, returns true and leaves the old memory as it was. -/
import Derived.Test.YtnjmmmclelmeiaaSmSeals
import Derived.Laws.Bits64
import Derived.Deep.DeepCutAuto
namespace Go.Proofs.Ytnjmmmclelmeiaa.Sm
open Go.RowKit Go.Proofs.Ytnjmmmclelmeiaa.Fx

/-- one of sealed bytes is another one: they are not sealed. -/
theorem turned_no (u : List UInt8) (k : Nat) (c : UInt8) (hk : k < u.length + 4) (hc : (u ++ fourL (ofI u))[k]? ≠ some c) :
    fourL (ofI (((u ++ fourL (ofI u)).set k c).take u.length)) ≠ ((u ++ fourL (ofI u)).set k c).drop u.length := by
  intro h
  by_cases hl : k < u.length
  · have e : (u ++ fourL (ofI u)).set k c = u.set k c ++ fourL (ofI u) := List.set_append_left _ _ hl
    rw [e, List.take_append_of_le_length (by rw [List.length_set]; omega), List.take_of_length_le (by rw [List.length_set]; omega), List.drop_append_of_le_length (by rw [List.length_set]; omega), List.drop_of_length_le (by rw [List.length_set]; omega), List.nil_append] at h
    have h2 := four_inj _ _ (of_bd _) (of_bd _) h
    have s1 : u = u.take k ++ u[k] :: u.drop (k + 1) := by rw [List.getElem_cons_drop, List.take_append_drop]
    have s2 : u.set k c = u.take k ++ c :: u.drop (k + 1) := by rw [List.set_eq_take_append_cons_drop, if_pos hl]
    have hne : c ≠ u[k] := by
      intro x
      apply hc
      rw [List.getElem?_append_left hl, List.getElem?_eq_getElem hl, x]
    apply turned_low (u.take k) (u.drop (k + 1)) c u[k] hne
    rw [← s1, ← s2]
    exact h2
  · have e : (u ++ fourL (ofI u)).set k c = u ++ (fourL (ofI u)).set (k - u.length) c := List.set_append_right _ _ (by omega)
    rw [e, List.take_append_of_le_length (by omega), List.take_of_length_le (by omega), List.drop_append_of_le_length (by omega), List.drop_of_length_le (by omega), List.nil_append] at h
    apply hc
    rw [List.getElem?_append_right (by omega), h, List.getElem?_set_self (by rw [four_len]; omega)]

/-- a place among M, however it is told. -/
theorem place_of (x M : Int) (h0 : 0 < M) (h1 : M ≤ 4611686018427387904) : ∃ k : Nat, (k : Int) < M ∧ wrap64 ((IntKind.u64.wrap x).tmod M) = k := by
  have hw : 0 ≤ IntKind.u64.wrap x := by rw [IntKind.wrap_u64]; omega
  have e : (IntKind.u64.wrap x).tmod M = IntKind.u64.wrap x % M := Int.tmod_eq_emod_of_nonneg hw
  have b0 := Int.emod_nonneg (IntKind.u64.wrap x) (show M ≠ 0 by omega)
  have b1 := Int.emod_lt_of_pos (IntKind.u64.wrap x) h0
  refine ⟨(IntKind.u64.wrap x % M).toNat, by omega, ?_⟩
  rw [e, IntWalk.wrap64_in _ (by omega)]
  omega

/-- the bytes l lie at the head of block B, and may be written. -/
def RowB (W : World) (B : Nat) (l : List UInt8) : Prop := ∀ j (h : j < l.length), W.cell? ⟨B, j, none⟩ = some (.int .u8 (l[j].toNat : Int)) ∧ W.frozen? ⟨B, j, none⟩ = false
theorem row_new (w : World) (S : ByteArray) (cap : Nat) (t : TypeId) (hc : S.size ≤ cap) : RowB (w.alloc (.cells (bytesRow S cap) t ((bytesRow S cap).size, (bytesRow S cap).size + 1))).drew w.heap.size S.data.toList := by
  intro j hj
  rw [Array.length_toList] at hj
  have hb : (bytesRow S cap).size = cap := by
    unfold bytesRow
    have : S.data.size = S.size := rfl
    simp; omega
  constructor
  · show (w.alloc (.cells (bytesRow S cap) t ((bytesRow S cap).size, (bytesRow S cap).size + 1))).cell? ⟨w.heap.size, j, none⟩ = _
    rw [World.cell?_alloc_mark, bytesRow_at S cap j hj]
    rfl
  · show (w.alloc (.cells (bytesRow S cap) t ((bytesRow S cap).size, (bytesRow S cap).size + 1))).frozen? ⟨w.heap.size, j, none⟩ = _
    rw [World.frozen?_alloc_mark, hb]
    have : S.data.size = S.size := rfl
    have : ¬ cap ≤ j := by omega
    simp [this]
theorem RowB.back {P : Program} {W : World} {B : Nat} {l : List UInt8} (h : RowB W B l) (src dst e : TypeId) (cap n : Nat) (hn : n = l.length) (hs : P.underlying src = some (.slice e)) (he : P.underlying e = some (.int .u8)) (hd : P.underlying dst = some .string) :
    (convert src dst (.slice (some ⟨B, 0, none⟩) n cap)).run P W = .ok (.string ⟨l.toArray⟩) W := by
  subst hn
  refine run_convert_bytes_back W src dst e ⟨B, 0, none⟩ cap l hs he hd (fun j hj => ?_)
  have ha : (⟨B, 0, none⟩ : Addr).add j = ⟨B, j, none⟩ := by simp [Addr.add]; omega
  rw [ha]
  exact (h j hj).1
theorem RowB.set {W : World} {B : Nat} {l : List UInt8} (h : RowB W B l) (k : Nat) (c : UInt8) (hk : k < l.length) : RowB (W.setCell ⟨B, k, none⟩ (.int .u8 (c.toNat : Int))) B (l.set k c) := by
  intro j hj
  rw [List.length_set] at hj
  have h1 := (h j hj).1
  have h2 := (h j hj).2
  by_cases e : j = k
  · subst e
    refine ⟨?_, by rw [World.frozen?_setCell]; exact h2⟩
    rw [World.cell?_setCell_same _ _ _ h1, List.getElem_set_self]
  · refine ⟨?_, by rw [World.frozen?_setCell]; exact h2⟩
    rw [World.cell?_setCell_other _ _ _ _ (by intro x; injection x with _ x _; omega), List.getElem_set_ne (by omega)]
    exact h1
theorem xor_byte (x : UInt8) (y : Int) (h : 0 ≤ y ∧ y ≤ 255) : bits .xor .u8 (x.toNat : Int) y = ((UInt8.ofNat (x.toNat ^^^ y.toNat)).toNat : Int) := by
  have hx := x.toNat_lt
  rw [u8_xor _ _ (by omega) (by omega) h.1 (by omega)]
  have : x.toNat ^^^ y.toNat < 2 ^ 8 := Nat.xor_lt_two_pow (by omega) (by omega)
  rw [Int.toNat_natCast, UInt8.toNat_ofNat', Nat.mod_eq_of_lt this]
theorem xor_ne (x : UInt8) (y : Int) (h : 0 ≤ y ∧ y ≤ 255) (h0 : y ≠ 0) : UInt8.ofNat (x.toNat ^^^ y.toNat) ≠ x := by
  intro e
  have hx := x.toNat_lt
  have hl : x.toNat ^^^ y.toNat < 2 ^ 8 := Nat.xor_lt_two_pow (by omega) (by omega)
  have e2 := congrArg UInt8.toNat e
  rw [UInt8.toNat_ofNat'] at e2
  have e3 : x.toNat ^^^ y.toNat = x.toNat := by omega
  have e4 : x.toNat ^^^ (x.toNat ^^^ y.toNat) = x.toNat ^^^ x.toNat := by rw [e3]
  rw [← Nat.xor_assoc, Nat.xor_self, Nat.zero_xor] at e4
  omega

end Go.Proofs.Ytnjmmmclelmeiaa.Sm
