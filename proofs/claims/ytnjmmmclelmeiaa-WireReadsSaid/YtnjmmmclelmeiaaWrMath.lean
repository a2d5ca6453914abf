/- Plain facts on layer 7 (wire): a datagram, when it may be, its bytes, reading them; what is told is read as it was, and what is read is told by these bytes. Nothing of the program is in this text. -/
import Derived.Test.YtnjmmmclelmeiaaPkRunM
namespace Go.Proofs.Ytnjmmmclelmeiaa.Wr
open Go.Proofs.Ytnjmmmclelmeiaa.Pk

/-- a datagram. -/
structure Dg where
  kind : Int
  nonce : Nat
  serial : Nat
  ack : Nat
  inputs : List UInt8
  sum : Nat
  lead : Int

def zeroD : Dg := ⟨0, 0, 0, 0, [], 0, 0⟩

/-- may it be? -/
def RightD (m : Dg) : Prop := (1 ≤ m.kind ∧ m.kind ≤ 7) ∧ fitB m.inputs = true ∧ (-1000 ≤ m.lead ∧ m.lead ≤ 1000) ∧ (m.nonce ≠ 0 → m.kind = 1 ∨ m.kind = 2) ∧ (m.serial ≠ 0 → m.kind = 3 ∨ m.kind = 4 ∨ m.kind = 6) ∧ (m.ack ≠ 0 → m.kind = 3 ∨ m.kind = 5) ∧ (0 < m.inputs.length ↔ m.kind = 3) ∧ (m.sum ≠ 0 → m.kind = 4) ∧ (m.lead ≠ 0 → m.kind = 6)
instance (m : Dg) : Decidable (RightD m) := by unfold RightD; infer_instance
def rightB (m : Dg) : Bool := decide (RightD m)
theorem right_yes {m : Dg} (h : RightD m) : rightB m = true := by unfold rightB; simpa using h
theorem right_no {m : Dg} (h : ¬ RightD m) : rightB m = false := by unfold rightB; simpa using h
theorem right_of {m : Dg} (h : rightB m = true) : RightD m := by unfold rightB at h; simpa using h
theorem zero_no : ¬ RightD zeroD := by intro h; have := h.1.1; simp [zeroD] at this

/-- it fits its fields. -/
def InD (m : Dg) : Prop := (-9223372036854775808 ≤ m.kind ∧ m.kind ≤ 9223372036854775807) ∧ m.nonce < 4294967296 ∧ m.serial < 65536 ∧ m.ack < 65536 ∧ m.sum < 4294967296 ∧ (-9223372036854775808 ≤ m.lead ∧ m.lead ≤ 9223372036854775807)
theorem zero_in : InD zeroD := by unfold InD zeroD; simp

/-- words of 4 and of 2 bytes, the highest first. -/
def w4 (n : Nat) : List UInt8 := [UInt8.ofNat (n / 16777216), UInt8.ofNat (n / 65536), UInt8.ofNat (n / 256), UInt8.ofNat n]
def w2 (n : Nat) : List UInt8 := [UInt8.ofNat (n / 256), UInt8.ofNat n]
theorem w4_len (n : Nat) : (w4 n).length = 4 := rfl
theorem w2_len (n : Nat) : (w2 n).length = 2 := rfl
def val : List UInt8 → Nat → Nat
  | [], a => a
  | c :: l, a => val l (a * 256 + c.toNat)
theorem nat_of (n : Nat) : (UInt8.ofNat n).toNat = n % 256 := by simp
theorem val_w4 (n : Nat) (h : n < 4294967296) : val (w4 n) 0 = n := by
  simp only [w4, val, nat_of]; omega
theorem val_w2 (n : Nat) (h : n < 65536) : val (w2 n) 0 = n := by
  simp only [w2, val, nat_of]; omega
theorem byte_back (n : Nat) (c : UInt8) (h : n % 256 = c.toNat) : UInt8.ofNat n = c := by
  apply UInt8.toNat_inj.1; rw [nat_of, h]
theorem w4_val (a b c d : UInt8) : w4 (val [a, b, c, d] 0) = [a, b, c, d] ∧ val [a, b, c, d] 0 < 4294967296 := by
  have := a.toNat_lt; have := b.toNat_lt; have := c.toNat_lt; have := d.toNat_lt
  simp only [val, w4]
  rw [byte_back _ a (by omega), byte_back _ b (by omega), byte_back _ c (by omega), byte_back _ d (by omega)]
  exact ⟨rfl, by omega⟩
theorem w2_val (a b : UInt8) : w2 (val [a, b] 0) = [a, b] ∧ val [a, b] 0 < 65536 := by
  have := a.toNat_lt; have := b.toNat_lt
  simp only [val, w2]
  rw [byte_back _ a (by omega), byte_back _ b (by omega)]
  exact ⟨rfl, by omega⟩
theorem take4 (l : List UInt8) (h : ¬ l.length < 4) : w4 (val (l.take 4) 0) = l.take 4 ∧ val (l.take 4) 0 < 4294967296 := by
  match l, h with
  | a :: b :: c :: d :: t, _ => exact w4_val a b c d
  | [], h => simp at h
  | [_], h => simp at h
  | [_, _], h => simp at h
  | [_, _, _], h => simp at h
theorem take2 (l : List UInt8) (h : ¬ l.length < 2) : w2 (val (l.take 2) 0) = l.take 2 ∧ val (l.take 2) 0 < 65536 := by
  match l, h with
  | a :: b :: t, _ => exact w2_val a b
  | [], h => simp at h
  | [_], h => simp at h

/-- the bytes of its fields; its bytes, ahead of the seal. -/
def bodyL (m : Dg) : List UInt8 :=
  if m.kind = 1 ∨ m.kind = 2 then w4 m.nonce
  else if m.kind = 3 then w2 m.serial ++ (w2 m.ack ++ runL m.inputs)
  else if m.kind = 4 then w2 m.serial ++ w4 m.sum
  else if m.kind = 5 then w2 m.ack
  else if m.kind = 6 then w2 m.serial ++ numL (sgnN m.lead)
  else []
def msgL (m : Dg) : List UInt8 := 80 :: UInt8.ofNat m.kind.toNat :: bodyL m

/-- what a reader of n bytes' words gives, what it leaves, whether it failed. -/
def gotN (n : Nat) (l : List UInt8) : Nat := if l.length < n then 0 else val (l.take n) 0
def leftN (n : Nat) (l : List UInt8) : List UInt8 := if l.length < n then l else l.drop n
def badN (n : Nat) (l : List UInt8) (f : Bool) : Bool := if l.length < n then true else f
/-- of inputs, of a lead. -/
def leftR (l : List UInt8) : List UInt8 := if (readR l).2.2 = 0 then l.drop (readR l).2.1 else l
def badR (l : List UInt8) (f : Bool) : Bool := if (readR l).2.2 = 0 then f else true
def leftS (l : List UInt8) : List UInt8 := if (rdN l).2.2 = 0 then l.drop (rdN l).2.1 else l
def badS (l : List UInt8) (f : Bool) : Bool := if (rdN l).2.2 = 0 then f else true

theorem bad_w {n : Nat} {l : List UInt8} {f : Bool} (h : badN n l f = false) : ¬ l.length < n ∧ f = false := by
  unfold badN at h
  split at h
  · cases h
  · exact ⟨by assumption, h⟩
theorem bad_r {l : List UInt8} {f : Bool} (h : badR l f = false) : (readR l).2.2 = 0 ∧ f = false := by
  unfold badR at h
  split at h
  · exact ⟨by assumption, h⟩
  · cases h
theorem bad_s {l : List UInt8} {f : Bool} (h : badS l f = false) : (rdN l).2.2 = 0 ∧ f = false := by
  unfold badS at h
  split at h
  · exact ⟨by assumption, h⟩
  · cases h
/-- a word, read: what it was, and what stood there. -/
theorem got4 {l : List UInt8} (h : ¬ l.length < 4) : l = w4 (gotN 4 l) ++ leftN 4 l := by
  unfold gotN leftN
  rw [if_neg h, if_neg h, (take4 l h).1, List.take_append_drop]
theorem got2 {l : List UInt8} (h : ¬ l.length < 2) : l = w2 (gotN 2 l) ++ leftN 2 l := by
  unfold gotN leftN
  rw [if_neg h, if_neg h, (take2 l h).1, List.take_append_drop]
theorem got4_bd (l : List UInt8) : gotN 4 l < 4294967296 := by
  unfold gotN
  split
  · omega
  · rename_i h; exact (take4 l h).2
theorem got2_bd (l : List UInt8) : gotN 2 l < 65536 := by
  unfold gotN
  split
  · omega
  · rename_i h; exact (take2 l h).2
theorem put4 (n : Nat) (t : List UInt8) (f : Bool) (h : n < 4294967296) : gotN 4 (w4 n ++ t) = n ∧ leftN 4 (w4 n ++ t) = t ∧ badN 4 (w4 n ++ t) f = f := by
  have hl : ¬ (w4 n ++ t).length < 4 := by rw [List.length_append, w4_len]; omega
  unfold gotN leftN badN
  rw [if_neg hl, if_neg hl, if_neg hl, List.take_left' (w4_len n), List.drop_left' (w4_len n), val_w4 n h]
  exact ⟨rfl, rfl, rfl⟩
theorem put2 (n : Nat) (t : List UInt8) (f : Bool) (h : n < 65536) : gotN 2 (w2 n ++ t) = n ∧ leftN 2 (w2 n ++ t) = t ∧ badN 2 (w2 n ++ t) f = f := by
  have hl : ¬ (w2 n ++ t).length < 2 := by rw [List.length_append, w2_len]; omega
  unfold gotN leftN badN
  rw [if_neg hl, if_neg hl, if_neg hl, List.take_left' (w2_len n), List.drop_left' (w2_len n), val_w2 n h]
  exact ⟨rfl, rfl, rfl⟩
theorem gotR {l : List UInt8} (h : (readR l).2.2 = 0) : l = runL (readR l).1 ++ leftR l := by
  unfold leftR
  rw [if_pos h, (readR_back l h).2.2, List.take_append_drop]
theorem putR (l t : List UInt8) (f : Bool) (h : fitB l = true) : (readR (runL l ++ t)).1 = l ∧ leftR (runL l ++ t) = t ∧ badR (runL l ++ t) f = f := by
  unfold leftR badR
  rw [readR_run l t h]
  exact ⟨rfl, by simp, rfl⟩
theorem gotS {l : List UInt8} (h : (rdN l).2.2 = 0) : l = numL (sgnN (unsN (rdN l).1)) ++ leftS l := by
  unfold leftS
  rw [if_pos h, sgn_uns, (rd_back l h).2.2.1, List.take_append_drop]
theorem putS (n : Int) (t : List UInt8) (f : Bool) (h0 : -9223372036854775808 ≤ n) (h1 : n ≤ 9223372036854775807) : unsN (rdN (numL (sgnN n) ++ t)).1 = n ∧ leftS (numL (sgnN n) ++ t) = t ∧ badS (numL (sgnN n) ++ t) f = f := by
  unfold leftS badS
  rw [rd_num _ t (sgn_bd n h0 h1)]
  exact ⟨uns_sgn n, by simp, rfl⟩

/-- what the program reads of a datagram's bytes behind the first two: the datagram, what is left, whether it failed. -/
def parseD (k : Int) (r : List UInt8) : Dg × List UInt8 × Bool :=
  if k = 1 ∨ k = 2 then (⟨k, gotN 4 r, 0, 0, [], 0, 0⟩, leftN 4 r, badN 4 r false)
  else if k = 3 then (⟨k, 0, gotN 2 r, gotN 2 (leftN 2 r), (readR (leftN 2 (leftN 2 r))).1, 0, 0⟩, leftR (leftN 2 (leftN 2 r)), badR (leftN 2 (leftN 2 r)) (badN 2 (leftN 2 r) (badN 2 r false)))
  else if k = 4 then (⟨k, 0, gotN 2 r, 0, [], gotN 4 (leftN 2 r), 0⟩, leftN 4 (leftN 2 r), badN 4 (leftN 2 r) (badN 2 r false))
  else if k = 5 then (⟨k, 0, 0, gotN 2 r, [], 0, 0⟩, leftN 2 r, badN 2 r false)
  else if k = 6 then (⟨k, 0, gotN 2 r, 0, [], 0, unsN (rdN (leftN 2 r)).1⟩, leftS (leftN 2 r), badS (leftN 2 r) (badN 2 r false))
  else (⟨k, 0, 0, 0, [], 0, 0⟩, r, false)
def okD (k : Int) (r : List UInt8) : Bool := !(parseD k r).2.2 && (parseD k r).2.1.isEmpty

theorem ok_of {k : Int} {r : List UInt8} (h : okD k r = true) : (parseD k r).2.2 = false ∧ (parseD k r).2.1 = [] := by
  unfold okD at h
  simpa using h
theorem parse_kind (k : Int) (r : List UInt8) : (parseD k r).1.kind = k := by
  unfold parseD
  repeat' split
  all_goals rfl
/-- what is read is told by these bytes. -/
theorem parse_back (k : Int) (r : List UInt8) (h : okD k r = true) : bodyL (parseD k r).1 = r := by
  obtain ⟨h1, h2⟩ := ok_of h
  unfold parseD at h1 h2 ⊢
  unfold bodyL
  by_cases c1 : k = 1 ∨ k = 2
  · simp only [c1, if_true] at h1 h2 ⊢
    have := got4 (bad_w h1).1
    rw [h2, List.append_nil] at this
    exact this.symm
  by_cases c3 : k = 3
  · subst c3
    simp only [show ¬ ((3 : Int) = 1 ∨ (3 : Int) = 2) by omega, if_false, if_true] at h1 h2 ⊢
    obtain ⟨a1, b1⟩ := bad_r h1
    obtain ⟨a2, b2⟩ := bad_w b1
    obtain ⟨a3, _⟩ := bad_w b2
    have e1 := gotR a1
    rw [h2, List.append_nil] at e1
    rw [← e1, ← got2 a2, ← got2 a3]
  by_cases c4 : k = 4
  · subst c4
    simp only [show ¬ ((4 : Int) = 1 ∨ (4 : Int) = 2) by omega, show ¬ ((4 : Int) = 3) by omega, if_false, if_true] at h1 h2 ⊢
    obtain ⟨a1, b1⟩ := bad_w h1
    obtain ⟨a2, _⟩ := bad_w b1
    have e1 := got4 a1
    rw [h2, List.append_nil] at e1
    rw [← e1, ← got2 a2]
  by_cases c5 : k = 5
  · subst c5
    simp only [show ¬ ((5 : Int) = 1 ∨ (5 : Int) = 2) by omega, show ¬ ((5 : Int) = 3) by omega, show ¬ ((5 : Int) = 4) by omega, if_false, if_true] at h1 h2 ⊢
    have e1 := got2 (bad_w h1).1
    rw [h2, List.append_nil] at e1
    exact e1.symm
  by_cases c6 : k = 6
  · subst c6
    simp only [show ¬ ((6 : Int) = 1 ∨ (6 : Int) = 2) by omega, show ¬ ((6 : Int) = 3) by omega, show ¬ ((6 : Int) = 4) by omega, show ¬ ((6 : Int) = 5) by omega, if_false, if_true] at h1 h2 ⊢
    obtain ⟨a1, b1⟩ := bad_s h1
    obtain ⟨a2, _⟩ := bad_w b1
    have e1 := gotS a1
    rw [h2, List.append_nil] at e1
    rw [← e1, ← got2 a2]
  · simp only [c1, c3, c4, c5, c6, if_false] at h1 h2 ⊢
    exact h2.symm

/-- what is told is read as it was. -/
theorem parse_put (m : Dg) (h : RightD m) (hi : InD m) : parseD m.kind (bodyL m) = (m, [], false) := by
  obtain ⟨hk, hf, hl, hn, hs, ha, hin, hsum, hld⟩ := h
  obtain ⟨_, i1, i2, i3, i4, i5⟩ := hi
  obtain ⟨k, n, s, a, l, u, d⟩ := m
  dsimp only at *
  unfold parseD bodyL
  dsimp only
  have nl : k ≠ 3 → l = [] := fun c => by
    cases l with
    | nil => rfl
    | cons x t => exact absurd (hin.1 (by simp)) c
  by_cases c1 : k = 1 ∨ k = 2
  · have p := put4 n [] false i1
    rw [List.append_nil] at p
    obtain rfl : s = 0 := by rcases Nat.eq_zero_or_pos s with z | z; exact z; have := hs (by omega); omega
    obtain rfl : a = 0 := by rcases Nat.eq_zero_or_pos a with z | z; exact z; have := ha (by omega); omega
    obtain rfl : u = 0 := by rcases Nat.eq_zero_or_pos u with z | z; exact z; have := hsum (by omega); omega
    obtain rfl : d = 0 := by by_cases z : d = 0; exact z; have := hld z; omega
    obtain rfl := nl (by omega)
    simp only [c1, if_true, p.1, p.2.1, p.2.2]
  by_cases c3 : k = 3
  · subst c3
    obtain rfl : n = 0 := by rcases Nat.eq_zero_or_pos n with z | z; exact z; have := hn (by omega); omega
    obtain rfl : u = 0 := by rcases Nat.eq_zero_or_pos u with z | z; exact z; have := hsum (by omega); omega
    obtain rfl : d = 0 := by by_cases z : d = 0; exact z; have := hld z; omega
    have p1 := put2 s (w2 a ++ runL l) false i2
    have p2 := put2 a (runL l) false i3
    have p3 := putR l [] false hf
    rw [List.append_nil] at p3
    simp only [show ¬ ((3 : Int) = 1 ∨ (3 : Int) = 2) by omega, if_false, if_true, p1.1, p1.2.1, p1.2.2, p2.1, p2.2.1, p2.2.2, p3.1, p3.2.1, p3.2.2]
  by_cases c4 : k = 4
  · subst c4
    obtain rfl : n = 0 := by rcases Nat.eq_zero_or_pos n with z | z; exact z; have := hn (by omega); omega
    obtain rfl : a = 0 := by rcases Nat.eq_zero_or_pos a with z | z; exact z; have := ha (by omega); omega
    obtain rfl : d = 0 := by by_cases z : d = 0; exact z; have := hld z; omega
    obtain rfl := nl (by omega)
    have p1 := put2 s (w4 u) false i2
    have p2 := put4 u [] false i4
    rw [List.append_nil] at p2
    simp only [show ¬ ((4 : Int) = 1 ∨ (4 : Int) = 2) by omega, show ¬ ((4 : Int) = 3) by omega, if_false, if_true, p1.1, p1.2.1, p1.2.2, p2.1, p2.2.1, p2.2.2]
  by_cases c5 : k = 5
  · subst c5
    obtain rfl : n = 0 := by rcases Nat.eq_zero_or_pos n with z | z; exact z; have := hn (by omega); omega
    obtain rfl : s = 0 := by rcases Nat.eq_zero_or_pos s with z | z; exact z; have := hs (by omega); omega
    obtain rfl : u = 0 := by rcases Nat.eq_zero_or_pos u with z | z; exact z; have := hsum (by omega); omega
    obtain rfl : d = 0 := by by_cases z : d = 0; exact z; have := hld z; omega
    obtain rfl := nl (by omega)
    have p1 := put2 a [] false i3
    rw [List.append_nil] at p1
    simp only [show ¬ ((5 : Int) = 1 ∨ (5 : Int) = 2) by omega, show ¬ ((5 : Int) = 3) by omega, show ¬ ((5 : Int) = 4) by omega, if_false, if_true, p1.1, p1.2.1, p1.2.2]
  by_cases c6 : k = 6
  · subst c6
    obtain rfl : n = 0 := by rcases Nat.eq_zero_or_pos n with z | z; exact z; have := hn (by omega); omega
    obtain rfl : a = 0 := by rcases Nat.eq_zero_or_pos a with z | z; exact z; have := ha (by omega); omega
    obtain rfl : u = 0 := by rcases Nat.eq_zero_or_pos u with z | z; exact z; have := hsum (by omega); omega
    obtain rfl := nl (by omega)
    have p1 := put2 s (numL (sgnN d)) false i2
    have p2 := putS d [] false i5.1 i5.2
    rw [List.append_nil] at p2
    simp only [show ¬ ((6 : Int) = 1 ∨ (6 : Int) = 2) by omega, show ¬ ((6 : Int) = 3) by omega, show ¬ ((6 : Int) = 4) by omega, show ¬ ((6 : Int) = 5) by omega, if_false, if_true, p1.1, p1.2.1, p1.2.2, p2.1, p2.2.1, p2.2.2]
  · obtain rfl : n = 0 := by rcases Nat.eq_zero_or_pos n with z | z; exact z; have := hn (by omega); omega
    obtain rfl : s = 0 := by rcases Nat.eq_zero_or_pos s with z | z; exact z; have := hs (by omega); omega
    obtain rfl : a = 0 := by rcases Nat.eq_zero_or_pos a with z | z; exact z; have := ha (by omega); omega
    obtain rfl : u = 0 := by rcases Nat.eq_zero_or_pos u with z | z; exact z; have := hsum (by omega); omega
    obtain rfl : d = 0 := by by_cases z : d = 0; exact z; have := hld z; omega
    obtain rfl := nl c3
    simp only [c1, c3, c4, c5, c6, if_false]

/-- t is the datagram m's bytes. -/
def IsD (t : List UInt8) (m : Dg) : Prop := RightD m ∧ InD m ∧ msgL m = t
theorem kind_back {m : Dg} (h : RightD m) : ((UInt8.ofNat m.kind.toNat).toNat : Int) = m.kind := by
  have := h.1; rw [nat_of]; omega
theorem is_parse {t : List UInt8} {m : Dg} (h : IsD t m) : ∃ c r, t = 80 :: c :: r ∧ (c.toNat : Int) = m.kind ∧ parseD (c.toNat : Int) r = (m, [], false) := by
  obtain ⟨hr, hi, rfl⟩ := h
  refine ⟨_, _, rfl, kind_back hr, ?_⟩
  rw [kind_back hr, parse_put m hr hi]
theorem is_inj {t : List UInt8} {m m' : Dg} (h : IsD t m) (h' : IsD t m') : m = m' := by
  obtain ⟨c, r, rfl, _, e⟩ := is_parse h
  obtain ⟨c', r', e2, _, e'⟩ := is_parse h'
  injection e2 with _ e2
  injection e2 with e3 e4
  subst e3 e4
  rw [e] at e'
  injection e'
theorem parse_in (k : Int) (r : List UInt8) (hk : 0 ≤ k ∧ k < 256) : InD (parseD k r).1 := by
  have a := got4_bd
  have b := got2_bd
  have hu := fun l => uns_bd (rdN l).1 (rd_bd l).1
  unfold parseD InD
  repeat' split
  all_goals
    dsimp only
    refine ⟨by omega, ?_, ?_, ?_, ?_, ?_⟩
    all_goals first | omega | exact a _ | exact b _ | exact hu _
/-- what the program reads, and it may be: it is told by these bytes. -/
theorem parse_is {c : UInt8} {r : List UInt8} (ho : okD (c.toNat : Int) r = true) (hr : RightD (parseD (c.toNat : Int) r).1) : IsD (80 :: c :: r) (parseD (c.toNat : Int) r).1 := by
  refine ⟨hr, parse_in _ _ (by have := c.toNat_lt; omega), ?_⟩
  unfold msgL
  rw [parse_back _ _ ho, parse_kind, Int.toNat_natCast, byte_back _ c (Nat.mod_eq_of_lt c.toNat_lt)]
theorem parse_none {c : UInt8} {r : List UInt8} (h : okD (c.toNat : Int) r = false ∨ ¬ RightD (parseD (c.toNat : Int) r).1) (m : Dg) : ¬ IsD (80 :: c :: r) m := by
  intro hm
  obtain ⟨c', r', e, hk, hp⟩ := is_parse hm
  injection e with _ e
  injection e with e3 e4
  subst e3 e4
  rcases h with h | h
  · unfold okD at h
    rw [hp] at h
    simp at h
  · rw [hp] at h
    exact h hm.1
theorem no_head {t : List UInt8} (h : ∀ c r, t ≠ 80 :: c :: r) (m : Dg) : ¬ IsD t m := by
  intro hm
  obtain ⟨c, r, e, _⟩ := is_parse hm
  exact h c r e

/-- how long a datagram's bytes are. -/
theorem str_len2 : ∀ (l : List UInt8), l.length ≤ 64 → (strL l).length ≤ 2 * l.length
  | [], _ => by rw [str_nil]; simp
  | x :: t, h => by
    have h1 := lead_le x t
    simp only [List.length_cons] at h
    have h2 := num_len 0 (leadN x t + 1) (by rw [Nat.zero_add, Nat.pow_one]; omega)
    have h3 := str_len2 (t.drop (leadN x t)) (by rw [List.length_drop]; omega)
    rw [List.length_drop] at h3
    rw [str_cons]
    simp only [List.length_cons, List.length_append]
    omega
termination_by l => l.length
decreasing_by simp; omega
theorem run_len2 (l : List UInt8) (h : l.length ≤ 64) : (runL l).length ≤ 129 := by
  have h1 := str_len2 l h
  have h2 := num_len 0 l.length (by rw [Nat.zero_add, Nat.pow_one]; omega)
  unfold runL
  rw [List.length_append]
  omega
theorem msg_len (m : Dg) (h : RightD m) : (msgL m).length ≤ 135 := by
  have h1 := run_len2 m.inputs (fit_len h.2.1)
  have h2 := num_len 1 (sgnN m.lead) (by have := h.2.2.1; unfold sgnN; split <;> omega)
  unfold msgL bodyL
  simp only [List.length_cons]
  repeat' split
  all_goals simp only [List.length_append, w4_len, w2_len, List.length_nil]; omega

end Go.Proofs.Ytnjmmmclelmeiaa.Wr
