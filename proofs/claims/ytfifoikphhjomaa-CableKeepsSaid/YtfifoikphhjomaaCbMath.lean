/- Layer 8 (cable): lists of strings as cells, what is taken off a list, a byte that is turned; plain facts, of no program. -/
import Derived.Test.YtfifoikphhjomaaRgWorld
import Derived.Test.YtfifoikphhjomaaRgDel
import Derived.Laws.IdiomStrings
import Derived.Laws.Concat
import Derived.Laws.Bits64
import Derived.Laws.AppendOwnNone
namespace Go.Proofs.Ytfifoikphhjomaa.Cb
open Go.RowKit Go.Proofs.Ytfifoikphhjomaa.Rg

/-- the strings of a list, as cells. -/
def strs (l : List ByteArray) : List Value := l.map Value.string
theorem strs_len (l : List ByteArray) : (strs l).length = l.length := by simp [strs]
theorem strs_snoc (l : List ByteArray) (x : ByteArray) : strs (l ++ [x]) = strs l ++ [.string x] := by simp [strs]
theorem strs_append (l k : List ByteArray) : strs (l ++ k) = strs l ++ strs k := by simp [strs]
theorem strs_get (l : List ByteArray) (j : Nat) (h : j < l.length) : (strs l)[j]? = some (.string (l[j]?.getD ⟨#[]⟩)) := by simp [strs, h]
theorem strs_one (l : List ByteArray) : ∀ u ∈ strs l, u.oneCell' = true := by
  intro u hu
  obtain ⟨x, _, rfl⟩ := List.mem_map.1 hu
  rfl

/-- a row of strings: its cells. -/
theorem srow_cell {w : World} {n₀ e cap : Nat} {ao : Option Addr} {l : List ByteArray} (h : w.ownsRow n₀ e 1 (.slice ao l.length cap) l.length (strs l)) (j : Nat) (hj : j < l.length) :
    ∃ g, ao = some ⟨g, 0, none⟩ ∧ w.cell? ⟨g, j, none⟩ = some (.string (l[j]?.getD ⟨#[]⟩)) := by
  rcases h.2 with ⟨h1, h2⟩ | ⟨g, cap', cur, h1, _⟩
  · omega
  · cases h1
    exact ⟨g, rfl, (h.cellAt j (by omega)).trans (strs_get l j hj)⟩

theorem szeros (n : Nat) : (Builtin.zeroCells (Value.string ⟨#[]⟩).cells n).toList = List.replicate n (.string ⟨#[]⟩) := by
  show (Builtin.zeroCells #[Value.string ⟨#[]⟩] n).toList = _
  simp [Builtin.zeroCells]
  apply List.ext_getElem
  · simp
  · intro i h1 h2
    simp [Nat.mod_one]

/-- whether there is one at i; the one at i; the others. -/
def inB (n : Nat) (i : Int) : Bool := decide (0 ≤ i) && decide (i < n)
def atS (l : List ByteArray) (i : Int) : ByteArray := if inB l.length i = true then l[i.toNat]?.getD ⟨#[]⟩ else ⟨#[]⟩
def offL (l : List ByteArray) (i : Int) : List ByteArray := if inB l.length i = true then l.take i.toNat ++ l.drop (i.toNat + 1) else l
theorem in_neg {n : Nat} {i : Int} (h : i < 0) : inB n i = false := by simp [inB]; omega
theorem in_far {n : Nat} {i : Int} (h : (n : Int) ≤ i) : inB n i = false := by simp [inB]; omega
theorem in_in {n k : Nat} (h : k < n) : inB n (k : Int) = true := by simp [inB]; omega
theorem in_of {n : Nat} {i : Int} (h : inB n i = true) : ∃ k : Nat, i = k ∧ k < n := by
  have hi : 0 ≤ i ∧ i < n := by simpa [inB] using h
  obtain ⟨k, rfl⟩ := Int.eq_ofNat_of_zero_le hi.1
  exact ⟨k, rfl, by omega⟩
theorem in_not {n : Nat} {i : Int} (h : inB n i = false) : i < 0 ∨ (n : Int) ≤ i := by
  by_cases h0 : i < 0
  · exact .inl h0
  · by_cases h1 : (n : Int) ≤ i
    · exact .inr h1
    · have : inB n i = true := by simp [inB]; omega
      rw [h] at this; cases this
theorem atS_in {l : List ByteArray} {k : Nat} (h : k < l.length) : atS l (k : Int) = l[k]?.getD ⟨#[]⟩ := by simp [atS, in_in h]
theorem atS_no {l : List ByteArray} {i : Int} (h : inB l.length i = false) : atS l i = ⟨#[]⟩ := by simp [atS, h]
theorem offL_in {l : List ByteArray} {k : Nat} (h : k < l.length) : offL l (k : Int) = l.take k ++ l.drop (k + 1) := by simp [offL, in_in h]
theorem offL_no {l : List ByteArray} {i : Int} (h : inB l.length i = false) : offL l i = l := by simp [offL, h]
theorem offL_len (l : List ByteArray) (i : Int) : (offL l i).length ≤ l.length := by
  unfold offL
  split
  · simp; omega
  · omega
theorem offL_len1 {l : List ByteArray} {i : Int} (h : inB l.length i = true) : (offL l i).length + 1 = l.length := by
  obtain ⟨k, rfl, hk⟩ := in_of h
  rw [offL_in hk]
  simp; omega
theorem offL_mem {l : List ByteArray} {i : Int} {x : ByteArray} (h : x ∈ offL l i) : x ∈ l := by
  unfold offL at h
  split at h
  · rcases List.mem_append.1 h with h | h
    · exact List.mem_of_mem_take h
    · exact List.mem_of_mem_drop h
  · exact h
theorem atS_mem {l : List ByteArray} {i : Int} (h : inB l.length i = true) : atS l i ∈ l := by
  obtain ⟨k, rfl, hk⟩ := in_of h
  rw [atS_in hk, List.getElem?_eq_getElem hk]
  exact List.getElem_mem hk

/-- the bytes l lie at the head of block B, and may be written. -/
def RowB (W : World) (B : Nat) (l : List UInt8) : Prop := ∀ j (h : j < l.length), W.cell? ⟨B, j, none⟩ = some (.int .u8 (l[j].toNat : Int)) ∧ W.frozen? ⟨B, j, none⟩ = false
theorem row_new (w : World) (S : ByteArray) (cap : Nat) (t : TypeId) (hc : S.size ≤ cap) : RowB (w.alloc (.cells (bytesRow S cap) t ((bytesRow S cap).size, (bytesRow S cap).size + 1))).drew w.heap.size S.data.toList := by
  intro j hj
  rw [Array.length_toList] at hj
  have hb : (bytesRow S cap).size = cap := by
    unfold bytesRow
    have : S.data.size = S.size := rfl
    simp; omega
  constructor
  · show (w.alloc (.cells (bytesRow S cap) t ((bytesRow S cap).size, (bytesRow S cap).size + 1))).cell? ⟨w.heap.size, j, none⟩ = _
    rw [World.cell?_alloc_mark, bytesRow_at S cap j hj]
    rfl
  · show (w.alloc (.cells (bytesRow S cap) t ((bytesRow S cap).size, (bytesRow S cap).size + 1))).frozen? ⟨w.heap.size, j, none⟩ = _
    rw [World.frozen?_alloc_mark, hb]
    have : S.data.size = S.size := rfl
    have : ¬ cap ≤ j := by omega
    simp [this]
theorem RowB.back {P : Program} {W : World} {B : Nat} {l : List UInt8} (h : RowB W B l) (src dst e : TypeId) (cap n : Nat) (hn : n = l.length) (hs : P.underlying src = some (.slice e)) (he : P.underlying e = some (.int .u8)) (hd : P.underlying dst = some .string) :
    (convert src dst (.slice (some ⟨B, 0, none⟩) n cap)).run P W = .ok (.string ⟨l.toArray⟩) W := by
  subst hn
  refine run_convert_bytes_back W src dst e ⟨B, 0, none⟩ cap l hs he hd (fun j hj => ?_)
  have ha : (⟨B, 0, none⟩ : Addr).add j = ⟨B, j, none⟩ := by simp [Addr.add]; omega
  rw [ha]
  exact (h j hj).1
theorem RowB.set {W : World} {B : Nat} {l : List UInt8} (h : RowB W B l) (k : Nat) (c : UInt8) (hk : k < l.length) : RowB (W.setCell ⟨B, k, none⟩ (.int .u8 (c.toNat : Int))) B (l.set k c) := by
  intro j hj
  rw [List.length_set] at hj
  have h1 := (h j hj).1
  have h2 := (h j hj).2
  by_cases e : j = k
  · subst e
    refine ⟨?_, by rw [World.frozen?_setCell]; exact h2⟩
    rw [World.cell?_setCell_same _ _ _ h1, List.getElem_set_self]
  · refine ⟨?_, by rw [World.frozen?_setCell]; exact h2⟩
    rw [World.cell?_setCell_other _ _ _ _ (by intro x; injection x with _ x _; omega), List.getElem_set_ne (by omega)]
    exact h1
theorem xor_byte (x : UInt8) (y : Int) (h : 0 ≤ y ∧ y ≤ 255) : bits .xor .u8 (x.toNat : Int) y = ((UInt8.ofNat (x.toNat ^^^ y.toNat)).toNat : Int) := by
  have hx := x.toNat_lt
  rw [u8_xor _ _ (by omega) (by omega) h.1 (by omega)]
  have : x.toNat ^^^ y.toNat < 2 ^ 8 := Nat.xor_lt_two_pow (by omega) (by omega)
  rw [Int.toNat_natCast, UInt8.toNat_ofNat', Nat.mod_eq_of_lt this]

/-- the place at modulo n, from 0 on. -/
def placeI (at_ : Int) (n : Nat) : Int := at_ % n
theorem place_rem (x : Int) (n : Nat) (h : 0 < n) : (x.tmod n < 0 → x.tmod n + n = placeI x n) ∧ (¬ x.tmod n < 0 → x.tmod n = placeI x n) := by
  unfold placeI
  have h1 := Int.emod_nonneg x (show (n : Int) ≠ 0 by omega)
  have h2 := Int.emod_lt_of_pos x (show (0 : Int) < n by omega)
  have h3 := Int.tmod_add_mul_tdiv x n
  have h4 := Int.emod_add_mul_ediv x n
  have h5 : x.tmod n < n := Int.tmod_lt_of_pos x (by omega)
  have h6 : -(n : Int) < x.tmod n := by
    have := Int.tmod_lt_of_pos (-x) (show (0 : Int) < n by omega)
    rw [Int.neg_tmod] at this
    omega
  have key : ∀ a b : Int, -(n : Int) < (n : Int) * (a - b) → (n : Int) * (a - b) < n → a = b := by
    intro a b ha hb
    have h7 : -1 < a - b := by
      by_cases hh : -1 < a - b
      · exact hh
      · have := Int.mul_le_mul_of_nonneg_left (show a - b ≤ -1 by omega) (show (0 : Int) ≤ n by omega)
        omega
    have h8 : a - b < 1 := by
      by_cases hh : a - b < 1
      · exact hh
      · have := Int.mul_le_mul_of_nonneg_left (show 1 ≤ a - b by omega) (show (0 : Int) ≤ n by omega)
        omega
    omega
  constructor
  · intro hneg
    have e := key (x.tdiv n) (x / n + 1) (by rw [Int.mul_sub, Int.mul_add]; omega) (by rw [Int.mul_sub, Int.mul_add]; omega)
    rw [e, Int.mul_add] at h3
    omega
  · intro hpos
    have e := key (x.tdiv n) (x / n) (by rw [Int.mul_sub]; omega) (by rw [Int.mul_sub]; omega)
    rw [e] at h3
    omega
theorem place_bd (x : Int) (n : Nat) (h : 0 < n) : ∃ k : Nat, k < n ∧ placeI x n = k := by
  unfold placeI
  have h1 := Int.emod_nonneg x (show (n : Int) ≠ 0 by omega)
  have h2 := Int.emod_lt_of_pos x (show (0 : Int) < n by omega)
  exact ⟨(x % n).toNat, by omega, by omega⟩

/-- bytes with one turned. -/
def spoilS (s : ByteArray) (at_ by_ : Int) : ByteArray := ⟨(s.data.toList.set (placeI at_ s.size).toNat (UInt8.ofNat ((s.data.toList[(placeI at_ s.size).toNat]?.getD 0).toNat ^^^ by_.toNat))).toArray⟩

end Go.Proofs.Ytfifoikphhjomaa.Cb
