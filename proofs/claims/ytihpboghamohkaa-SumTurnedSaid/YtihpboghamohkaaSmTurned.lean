/- The statement SumTurned of layer 5 (sum), as a walk: the law, called with any bytes, any place and any byte, returns true and leaves the old memory as it was. -/
import Derived.Test.YtihpboghamohkaaSmSeals
import Derived.Laws.Bits64
import Derived.Deep.DeepCutAuto
namespace Go.Proofs.Ytihpboghamohkaa.Sm
open Go.RowKit Go.Proofs.Ytihpboghamohkaa.Fx

/-- one of sealed bytes is another one: they are not sealed. -/
theorem turned_no (u : List UInt8) (k : Nat) (c : UInt8) (hk : k < u.length + 4) (hc : (u ++ fourL (ofI u))[k]? ≠ some c) :
    fourL (ofI (((u ++ fourL (ofI u)).set k c).take u.length)) ≠ ((u ++ fourL (ofI u)).set k c).drop u.length := by
  intro h
  by_cases hl : k < u.length
  · have e : (u ++ fourL (ofI u)).set k c = u.set k c ++ fourL (ofI u) := List.set_append_left _ _ hl
    rw [e, List.take_append_of_le_length (by rw [List.length_set]; omega), List.take_of_length_le (by rw [List.length_set]; omega), List.drop_append_of_le_length (by rw [List.length_set]; omega), List.drop_of_length_le (by rw [List.length_set]; omega), List.nil_append] at h
    have h2 := four_inj _ _ (of_bd _) (of_bd _) h
    have s1 : u = u.take k ++ u[k] :: u.drop (k + 1) := by rw [List.getElem_cons_drop, List.take_append_drop]
    have s2 : u.set k c = u.take k ++ c :: u.drop (k + 1) := by rw [List.set_eq_take_append_cons_drop, if_pos hl]
    have hne : c ≠ u[k] := by
      intro x
      apply hc
      rw [List.getElem?_append_left hl, List.getElem?_eq_getElem hl, x]
    apply turned_low (u.take k) (u.drop (k + 1)) c u[k] hne
    rw [← s1, ← s2]
    exact h2
  · have e : (u ++ fourL (ofI u)).set k c = u ++ (fourL (ofI u)).set (k - u.length) c := List.set_append_right _ _ (by omega)
    rw [e, List.take_append_of_le_length (by omega), List.take_of_length_le (by omega), List.drop_append_of_le_length (by omega), List.drop_of_length_le (by omega), List.nil_append] at h
    apply hc
    rw [List.getElem?_append_right (by omega), h, List.getElem?_set_self (by rw [four_len]; omega)]

/-- a place among M, however it is told. -/
theorem place_of (x M : Int) (h0 : 0 < M) (h1 : M ≤ 4611686018427387904) : ∃ k : Nat, (k : Int) < M ∧ wrap64 ((IntKind.u64.wrap x).tmod M) = k := by
  have hw : 0 ≤ IntKind.u64.wrap x := by rw [IntKind.wrap_u64]; omega
  have e : (IntKind.u64.wrap x).tmod M = IntKind.u64.wrap x % M := Int.tmod_eq_emod_of_nonneg hw
  have b0 := Int.emod_nonneg (IntKind.u64.wrap x) (show M ≠ 0 by omega)
  have b1 := Int.emod_lt_of_pos (IntKind.u64.wrap x) h0
  refine ⟨(IntKind.u64.wrap x % M).toNat, by omega, ?_⟩
  rw [e, IntWalk.wrap64_in _ (by omega)]
  omega

/-- the bytes l lie at the head of block B, and may be written. -/
def RowB (W : World) (B : Nat) (l : List UInt8) : Prop := ∀ j (h : j < l.length), W.cell? ⟨B, j, none⟩ = some (.int .u8 (l[j].toNat : Int)) ∧ W.frozen? ⟨B, j, none⟩ = false
theorem row_new (w : World) (S : ByteArray) (cap : Nat) (t : TypeId) (hc : S.size ≤ cap) : RowB (w.alloc (.cells (bytesRow S cap) t ((bytesRow S cap).size, (bytesRow S cap).size + 1))).drew w.heap.size S.data.toList := by
  intro j hj
  rw [Array.length_toList] at hj
  have hb : (bytesRow S cap).size = cap := by
    unfold bytesRow
    have : S.data.size = S.size := rfl
    simp; omega
  constructor
  · show (w.alloc (.cells (bytesRow S cap) t ((bytesRow S cap).size, (bytesRow S cap).size + 1))).cell? ⟨w.heap.size, j, none⟩ = _
    rw [World.cell?_alloc_mark, bytesRow_at S cap j hj]
    rfl
  · show (w.alloc (.cells (bytesRow S cap) t ((bytesRow S cap).size, (bytesRow S cap).size + 1))).frozen? ⟨w.heap.size, j, none⟩ = _
    rw [World.frozen?_alloc_mark, hb]
    have : S.data.size = S.size := rfl
    have : ¬ cap ≤ j := by omega
    simp [this]
theorem RowB.back {P : Program} {W : World} {B : Nat} {l : List UInt8} (h : RowB W B l) (src dst e : TypeId) (cap n : Nat) (hn : n = l.length) (hs : P.underlying src = some (.slice e)) (he : P.underlying e = some (.int .u8)) (hd : P.underlying dst = some .string) :
    (convert src dst (.slice (some ⟨B, 0, none⟩) n cap)).run P W = .ok (.string ⟨l.toArray⟩) W := by
  subst hn
  refine run_convert_bytes_back W src dst e ⟨B, 0, none⟩ cap l hs he hd (fun j hj => ?_)
  have ha : (⟨B, 0, none⟩ : Addr).add j = ⟨B, j, none⟩ := by simp [Addr.add]; omega
  rw [ha]
  exact (h j hj).1
theorem RowB.set {W : World} {B : Nat} {l : List UInt8} (h : RowB W B l) (k : Nat) (c : UInt8) (hk : k < l.length) : RowB (W.setCell ⟨B, k, none⟩ (.int .u8 (c.toNat : Int))) B (l.set k c) := by
  intro j hj
  rw [List.length_set] at hj
  have h1 := (h j hj).1
  have h2 := (h j hj).2
  by_cases e : j = k
  · subst e
    refine ⟨?_, by rw [World.frozen?_setCell]; exact h2⟩
    rw [World.cell?_setCell_same _ _ _ h1, List.getElem_set_self]
  · refine ⟨?_, by rw [World.frozen?_setCell]; exact h2⟩
    rw [World.cell?_setCell_other _ _ _ _ (by intro x; injection x with _ x _; omega), List.getElem_set_ne (by omega)]
    exact h1
theorem xor_byte (x : UInt8) (y : Int) (h : 0 ≤ y ∧ y ≤ 255) : bits .xor .u8 (x.toNat : Int) y = ((UInt8.ofNat (x.toNat ^^^ y.toNat)).toNat : Int) := by
  have hx := x.toNat_lt
  rw [u8_xor _ _ (by omega) (by omega) h.1 (by omega)]
  have : x.toNat ^^^ y.toNat < 2 ^ 8 := Nat.xor_lt_two_pow (by omega) (by omega)
  rw [Int.toNat_natCast, UInt8.toNat_ofNat', Nat.mod_eq_of_lt this]
theorem xor_ne (x : UInt8) (y : Int) (h : 0 ≤ y ∧ y ≤ 255) (h0 : y ≠ 0) : UInt8.ofNat (x.toNat ^^^ y.toNat) ≠ x := by
  intro e
  have hx := x.toNat_lt
  have hl : x.toNat ^^^ y.toNat < 2 ^ 8 := Nat.xor_lt_two_pow (by omega) (by omega)
  have e2 := congrArg UInt8.toNat e
  rw [UInt8.toNat_ofNat'] at e2
  have e3 : x.toNat ^^^ y.toNat = x.toNat := by omega
  have e4 : x.toNat ^^^ (x.toNat ^^^ y.toNat) = x.toNat ^^^ x.toNat := by rw [e3]
  rw [← Nat.xor_assoc, Nat.xor_self, Nat.zero_xor] at e4
  omega

set_option maxHeartbeats 1000000 in
theorem turned_w (s : ByteArray) (at' by' : Int) (w : World) (hs : s.size ≤ maxLen) (hb : 0 ≤ by' ∧ by' ≤ 255) :
    Calls Try.prog 6 #[.string s, .int .i64 at', .int .u8 by'] w fun e w' => e = .returned (.bool true) ∧ Below w.heap.size w w' := by
  unfold maxLen at hs
  by_cases h : 20000 < s.size
  · go_enter Try.func6, Try.ntmps6
    go_wp2_with (go_at_call 7; ((with_reducible refine (awake_c _).mono ?_); rintro e w' ⟨rfl, rfl⟩))
    go_ret
    exact ⟨rfl, Below.refl _ _⟩
  by_cases h2 : by' = 0
  · subst h2
    go_enter Try.func6, Try.ntmps6
    go_wp2_with (go_at_call 7; ((with_reducible refine (awake_c _).mono ?_); rintro e w' ⟨rfl, rfl⟩))
    go_ret
    exact ⟨rfl, Below.refl _ _⟩
  · have hb2 : (by' == 0) = false := by simpa using h2
    have hz := seal_size s
    have hcv := fun W : World => run_bytes_of_string (P := Try.prog) W 9 37 5 (sealS s) Try.underlying9 Try.underlying37 Try.underlying5
    rw [hz] at hcv
    have hL := seal_list s
    have hn : (s.data.toList ++ fourL (ofI s.data.toList)).length = s.size + 4 := by rw [List.length_append, four_len, ← Lib.size_eq]
    obtain ⟨k, hk, e⟩ := place_of at' (s.size + 4) (by omega) (by omega)
    have hk : k < s.size + 4 := by omega
    have hkl : k < (s.data.toList ++ fourL (ofI s.data.toList)).length := by omega
    have E := hid e
    have hx := xor_byte (s.data.toList ++ fourL (ofI s.data.toList))[k] by' hb
    have hno := turned_no s.data.toList k (UInt8.ofNat ((s.data.toList ++ fourL (ofI s.data.toList))[k].toNat ^^^ by'.toNat)) (by rw [← Lib.size_eq]; omega) (by
      rw [List.getElem?_eq_getElem hkl]
      intro x
      exact xor_ne _ by' hb h2 (Option.some.inj x).symm)
    have hl2 : ((s.data.toList ++ fourL (ofI s.data.toList)).set k (UInt8.ofNat ((s.data.toList ++ fourL (ofI s.data.toList))[k].toNat ^^^ by'.toNat))).length = s.size + 4 := by rw [List.length_set]; exact hn
    have hset : ∀ W B, RowB W B (s.data.toList ++ fourL (ofI s.data.toList)) → RowB (W.setCell ⟨B, k, none⟩ (.int .u8 ((UInt8.ofNat ((s.data.toList ++ fourL (ofI s.data.toList))[k].toNat ^^^ by'.toNat)).toNat : Int))) B ((s.data.toList ++ fourL (ofI s.data.toList)).set k (UInt8.ofNat ((s.data.toList ++ fourL (ofI s.data.toList))[k].toNat ^^^ by'.toNat))) := fun W B hr => hr.set k _ hkl
    have hat : ∀ W B, RowB W B (s.data.toList ++ fourL (ofI s.data.toList)) → W.cell? ⟨B, k, none⟩ = some (.int .u8 ((s.data.toList ++ fourL (ofI s.data.toList))[k].toNat : Int)) ∧ W.frozen? ⟨B, k, none⟩ = false := fun W B hr => hr k hkl
    generalize UInt8.ofNat ((s.data.toList ++ fourL (ofI s.data.toList))[k].toNat ^^^ by'.toNat) = c at hx hno hl2 hset
    generalize (s.data.toList ++ fourL (ofI s.data.toList))[k] = x at hx hat
    generalize hT : (s.data.toList ++ fourL (ofI s.data.toList)).set k c = T at hno hl2 hset
    have Ho : Hid (∀ W : World, Calls Try.prog 14 #[.string ⟨T.toArray⟩] W fun e w' => e = .returned (.tuple #[.string ⟨#[]⟩, .int .i64 15]) ∧ Below W.heap.size W w') := fun W =>
      open_no ⟨T.toArray⟩ s.size W (by show T.toArray.size = _; simpa using hl2) (by omega) (by rw [Lib.size_eq]; simpa using hno)
    have Hset := hid hset
    have Hat := hid hat
    have Hl2 := hid hl2
    have HL := hid hL
    clear e hno hset hat hl2 hL hn hT hkl
    go_enter Try.func6, Try.ntmps6
    go_upto_region 6 with (first
      | (go_at_call 7; ((with_reducible refine (awake_c _).mono ?_); rintro e w' ⟨rfl, rfl⟩))
      | (go_at_call 15; ((with_reducible refine (seal_c s w (by unfold maxLen; omega)).mono ?_); rintro e w1 ⟨rfl, hw1⟩)))
    have hr := row_new w1 (sealS s) (grownCap w1 (s.size + 4) 0 5) 5 (by rw [hz]; exact grownCap_ge _ _ _ _)
    rw [HL.out] at hr
    have hw2 : Below w.heap.size w (w1.alloc (.cells (bytesRow (sealS s) (grownCap w1 (s.size + 4) 0 5)) 5 ((bytesRow (sealS s) (grownCap w1 (s.size + 4) 0 5)).size, (bytesRow (sealS s) (grownCap w1 (s.size + 4) 0 5)).size + 1))).drew := (hw1.alloc hw1.size _).drew
    have hB : w.heap.size ≤ w1.heap.size := hw1.size
    clear hw1 hcv
    generalize (w1.alloc (.cells (bytesRow (sealS s) (grownCap w1 (s.size + 4) 0 5)) 5 ((bytesRow (sealS s) (grownCap w1 (s.size + 4) 0 5)).size, (bytesRow (sealS s) (grownCap w1 (s.size + 4) 0 5)).size + 1))).drew = w2 at hr hw2 ⊢
    generalize grownCap w1 (s.size + 4) 0 5 = cp
    generalize w1.heap.size = B at hr hB ⊢
    obtain ⟨hcell, hfz⟩ := Hat.out w2 B hr
    have hback := RowB.back (P := Try.prog) (Hset.out w2 B hr) 37 9 5 cp (s.size + 4) Hl2.out.symm Try.underlying37 Try.underlying5 Try.underlying9
    go_upto_region 7 with (fail)
    rw [E.out]
    go_wp2_with (go_at_call 14; ((with_reducible refine (Ho.out _).mono ?_); rintro e w4 ⟨rfl, hw4⟩))
    go_ret
    exact ⟨rfl, btrans (hw2.setCell hB _) hw4⟩

end Go.Proofs.Ytihpboghamohkaa.Sm
