/- The bytes of events (layer 11, event). -/
import Derived.Test.YtfkbkfaiplhehaaEvBl
import Derived.Test.YtfkbkfaiplhehaaEvF
namespace Go.Proofs.Ytfkbkfaiplhehaa.Ev
open Go.RowKit
open Ytfkbkfaiplhehaa.Pk (numL num_pos num_len10 sgnN)
set_option linter.unusedVariables false

theorem Bld.below {B b : Nat} {l : List UInt8} {w w' : World} (h : Bld B b l w) (g : Below w.heap.size w w') : Bld B b l w' := by
  have key : ∀ p, Lib.BuilderAtF 87 5 B b p (Lib.byteCells l) w → Lib.BuilderAtF 87 5 B b p (Lib.byteCells l) w' := by
    rintro p ⟨hB, v, hb, ho, hne⟩
    have hlt : b < w.heap.size := (Array.getElem?_eq_some_iff.1 hb).1
    refine ⟨hB, v, by rw [g.block b hlt]; exact hb, ⟨ho.1, ?_⟩, hne⟩
    rcases ho.2 with h0 | ⟨r, cap, cur, fz, e, hr, hg, rest⟩
    · exact .inl h0
    · exact .inr ⟨r, cap, cur, fz, e, hr, by rw [g.block r (Array.getElem?_eq_some_iff.1 hg).1]; exact hg, rest⟩
  exact h.elim (fun x => .inl (key _ x)) (fun x => .inr (key _ x))
theorem At.keptO {w w' : World} {k b : Nat} {cs : Array Value} {T : TypeId} (h : At w k cs T) (g : Kept b w w') (hk : k ≠ b) (hT : T ≠ 5) : At w' k cs T :=
  g k _ h (fun e => hk (by injection e)) (fun c fz e => by injection e with _ e2 _; exact hT e2)

/-- the bytes of some numbers. -/
def numsL (l : List Nat) : List UInt8 := l.flatMap numL
theorem nums_snoc (l : List Nat) (n : Nat) : numsL (l ++ [n]) = numsL l ++ numL n := by simp [numsL]
theorem nums_len : ∀ l : List Nat, (∀ n ∈ l, n < 18446744073709551616) → (numsL l).length ≤ 10 * l.length
  | [], _ => by simp [numsL]
  | n :: l, h => by
    have h1 := num_len10 n (h n (by simp))
    have h2 := nums_len l (fun m hm => h m (by simp [hm]))
    unfold numsL at h2 ⊢
    rw [List.flatMap_cons, List.length_append, List.length_cons]
    omega
abbrev nc (n : Nat) : List Value := [.int .i64 (n : Int)]
abbrev Ints := Sl nc 1
theorem ints_at {w : World} {b : Nat} {xs : List Nat} {cs : Array Value} (h : At w b cs 3) (hc : ∀ j (hj : j < xs.length), cs[j]? = some (.int .i64 ((xs[j] : Nat) : Int))) (hs : cs.size ≤ 100) (hl : xs.length ≤ 100) : Ints w (.slice (some ⟨b, 0, none⟩) xs.length xs.length) xs := by
  refine ⟨_, _, _, rfl, rfl, Nat.le_refl _, by omega, fun _ => ⟨b, 0, rfl, h.lt, fun j hj i v hv => ?_⟩⟩
  rw [cell_of_row w b _ _ _ _ h]
  match i, hv with
  | 0, hv =>
    simp at hv
    subst hv
    have := hc j hj
    simp only [Nat.zero_add, Nat.mul_one, Nat.add_zero]
    exact this
  | i + 1, hv => simp at hv
theorem ints_one {w : World} {b : Nat} {x : Int} {n : Nat} (h : At w b #[.int .i64 x] 3) (hx : x = (n : Int)) : Ints w (.slice (some ⟨b, 0, none⟩) 1 1) [n] := by
  subst hx
  refine ints_at (xs := [n]) h (fun j hj => ?_) (by simp) (by simp)
  match j, hj with
  | 0, _ => rfl
theorem ints_two {w : World} {b : Nat} {x y : Int} {n m : Nat} (h : At w b #[.int .i64 x, .int .i64 y] 3) (hx : x = (n : Int)) (hy : y = (m : Int)) : Ints w (.slice (some ⟨b, 0, none⟩) 2 2) [n, m] := by
  subst hx hy
  refine ints_at (xs := [n, m]) h (fun j hj => ?_) (by simp) (by simp)
  match j, hj with
  | 0, _ => rfl
  | 1, _ => rfl
theorem ints_six {w : World} {b : Nat} {x0 x1 x2 x3 x4 x5 : Int} {n0 n1 n2 n3 n4 n5 : Nat} (h : At w b #[.int .i64 x0, .int .i64 x1, .int .i64 x2, .int .i64 x3, .int .i64 x4, .int .i64 x5] 3)
    (h0 : x0 = (n0 : Int)) (h1 : x1 = (n1 : Int)) (h2 : x2 = (n2 : Int)) (h3 : x3 = (n3 : Int)) (h4 : x4 = (n4 : Int)) (h5 : x5 = (n5 : Int)) : Ints w (.slice (some ⟨b, 0, none⟩) 6 6) [n0, n1, n2, n3, n4, n5] := by
  subst h0 h1 h2 h3 h4 h5
  refine ints_at (xs := [n0, n1, n2, n3, n4, n5]) h (fun j hj => ?_) (by simp) (by simp)
  match j, hj with
  | 0, _ => rfl
  | 1, _ => rfl
  | 2, _ => rfl
  | 3, _ => rfl
  | 4, _ => rfl
  | 5, _ => rfl
theorem Row.int {w : World} {ao : Option Addr} {l : List Nat} (h : Row nc 1 w ao l) {j n : Nat} (hx : l[j]? = some n) : ∃ b o, ao = some ⟨b, o, none⟩ ∧ b < w.heap.size ∧ w.cell? ⟨b, o + j, none⟩ = some (.int .i64 (n : Int)) := by
  obtain ⟨hj, rfl⟩ := List.getElem?_eq_some_iff.1 hx
  obtain ⟨b, o, e, hlt, hc⟩ := h (by omega)
  have := hc j hj 0 _ rfl
  simp only [Nat.mul_one, Nat.add_zero] at this
  exact ⟨b, o, e, hlt, this⟩
theorem u64_of (n : Nat) (h : n < 9223372036854775808) : IntKind.u64.wrap (n : Int) = (n : Int) := by
  rw [IntKind.wrap_u64]; omega

set_option maxRecDepth 100000 in
set_option maxHeartbeats 1000000 in
theorem numbers_c (v : Value) (l : List Nat) (w : World) (h : Ints w v l) (hl : l.length ≤ 16) (hb : ∀ n ∈ l, n < 9223372036854775808) :
    Calls Try.prog 52 #[v] w fun e w' => e = .returned (.string ⟨(numsL l).toArray⟩) ∧ Below w.heap.size w w' := by
  obtain ⟨ao, L, cap, rfl, hL, hc, hm, ht⟩ := h
  have HL := hid hL
  have HT := hid ht
  have HBd := hid hb
  have HN := hid (bld_new w)
  have HB := hid (bal (br w) (.cells #[.pointer none, .slice none 0 0] 87))
  have hL16 : L ≤ 16 := by omega
  clear hL ht hb hl
  go_enter Try.func52, Try.ntmps52
  go_wp2_with fail
  go_loopw [8] (fun i wr => ∃ k : Nat, k ≤ L ∧ i = .int .i64 k ∧ Bld w.heap.size w.heap.size (numsL (l.take k)) wr ∧ Below w.heap.size w wr) (fun i _ => L - (intOf i).toNat)
  case atStart => exact ⟨0, Nat.zero_le _, rfl, HN.out, HB.out⟩
  case round =>
    obtain ⟨k, hk, rfl, hD, hB⟩ := hrel
    have HD := hid hD
    have HG := hid hB
    by_cases hlt : k < L
    · obtain ⟨n, hx⟩ := get_lt HL.out hlt
      obtain ⟨b, o, rfl, hb, c0⟩ := (HT.out.below hB).int hx
      have hk1 : (k : Int) < (L : Int) := by omega
      have hk0 : (0 : Int) ≤ (k : Int) := by omega
      have hn : n < 9223372036854775808 := HBd.out n (List.mem_of_getElem? hx)
      have HS : Hid (numsL (l.take (k + 1)) = numsL (l.take k) ++ numL n) := hid (by rw [← take_snoc hx, nums_snoc])
      have hlen : (numsL (l.take k)).length ≤ 160 := by
        have := nums_len (l.take k) (fun m hm => Nat.lt_trans (HBd.out m (List.mem_of_mem_take hm)) (by decide))
        have h2 : (l.take k).length ≤ 16 := by rw [List.length_take]; have := HL.out; omega
        omega
      have hn10 := num_len10 n (Nat.lt_trans hn (by decide))
      have hu := u64_of n hn
      clear hx hD hB
      go_wp2_with (first
        | (go_at_call 68; ((with_reducible refine (Pk.number_i _ n _ (by first | rfl | exact hu) (Nat.lt_trans hn (by decide))).mono ?_); rintro e w1 ⟨rfl, g1⟩; have HD1 := hid (HD.out.below g1); have HG1 := hid (bt HG.out g1)))
        | (go_at_call 51; ((with_reducible refine (write_c _ _ _ _ _ HD1.out (by omega) HG1.out.size).mono ?_); rintro e w2 ⟨rfl, hD2, g2, k2⟩)))
      go_roundw
      case rel => exact ⟨k + 1, by omega, by go_num, by rw [HS.out]; exact hD2, HG1.out.trans g2⟩
      case measure => simp [intOf]; omega
    · have htk : l.take k = l := List.take_of_length_le (by have := HL.out; omega)
      have hd0 : decide ((k : Int) < (L : Int)) = false := by simp; omega
      rw [htk] at HD
      clear htk hD hB
      go_wp2_with (go_at_call 54; ((with_reducible refine (string_c _ _ _ _ HD.out HG.out.size).mono ?_); rintro e w2 ⟨rfl, g2⟩))
      go_ret
      exact ⟨rfl, HG.out.trans g2⟩

end Go.Proofs.Ytfkbkfaiplhehaa.Ev
