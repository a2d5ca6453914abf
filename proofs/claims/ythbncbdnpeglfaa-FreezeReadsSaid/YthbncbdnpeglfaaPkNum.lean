/- What the functions of layer 6 (pack) that make a number's bytes, and the document's answers for them, return; what they make lies in new memory. -/
import Derived.Test.YthbncbdnpeglfaaPkCalls
import Derived.Laws.IdiomStrings
import Derived.Laws.Concat
import Derived.Lib.BufSteps
import Derived.Lib.Strings
import Derived.Lib.UnsafeStr
namespace Go.Proofs.Ythbncbdnpeglfaa.Pk
open Go.RowKit Go.Proofs.Ythbncbdnpeglfaa.Fx

theorem info_byte : (Try.prog.info? 5).map (fun i => (i.zero, i.size, i.bytes)) = some (some (.int .u8 0), 1, 1) := by kernel_rfl
theorem info_parts {i : TypeInfo} {z : Value} {a b : Nat} (h : (i.zero, i.size, i.bytes) = (some z, a, b)) : i.zero = some z ∧ i.size = a ∧ i.bytes = b := by
  simp only [Prod.mk.injEq] at h; exact h

/-- v is the call's own slice of the bytes l; of what lay below B in W0 nothing has turned. -/
def Own (B : Nat) (v : Value) (l : List UInt8) (W0 w : World) : Prop := Lib.OwnBuf B 5 v l.length (Lib.byteCells l) W0 w

theorem Own.nil (W : World) : Own W.heap.size (.slice none 0 0) [] W W := ⟨World.ownsRowF_nil _ _ _ _, Below.refl _ _, Nat.le_refl _⟩

theorem Own.snoc {B : Nat} {v : Value} {l : List UInt8} {W0 w : World} {x : Int} {c : UInt8} (h : Lib.OwnBuf B 5 v (l.length + 1) (Lib.byteCells l ++ [.int .u8 x]) W0 w) (hc : (c.toNat : Int) = x) : Own B v (l ++ [c]) W0 w := by
  subst hc
  unfold Own
  rw [Lib.byteCells_append, List.length_append]
  exact h

theorem byte_of (n : Nat) (h : n < 256) : ((UInt8.ofNat n).toNat : Int) = (n : Int) := by rw [byte_nat n h]

/-- a call that has added l to what it was given. -/
def Gave (B : Nat) (l : List UInt8) (W0 : World) (e : Ending) (w' : World) : Prop := ∃ v, e = .returned v ∧ Own B v l W0 w'

set_option maxRecDepth 100000 in
set_option maxHeartbeats 1000000 in
theorem add_c (B : Nat) (v : Value) (l0 : List UInt8) (n : Nat) (W0 w : World) (hb : Own B v l0 W0 w) (hn : n < 18446744073709551616) (hl : l0.length ≤ 1073741824) :
    Calls Try.prog 79 #[v, .int .u64 (n : Int)] w (Gave B (l0 ++ numL n) W0) := by
  obtain ⟨i0, hi, hz⟩ := Option.map_eq_some_iff.1 info_byte
  obtain ⟨hz0, hz1, hz2⟩ := info_parts hz
  have HI := hid hi
  have H0 := hid hz0
  have H1 := hid hz1
  have H2 := hid hz2
  clear hi hz hz0 hz1 hz2
  have hlen := num_len10 n hn
  go_enter Try.func79, Try.ntmps79
  go_wp2
  go_loopw [0, 1] (fun v x wr => ∃ (m : Nat) (l : List UInt8), x = .int .u64 m ∧ m < 18446744073709551616 ∧ Hid (l ++ numL m = l0 ++ numL n) ∧ Own B v l W0 wr) (fun _ x _ => (intOf x).toNat)
  case atStart => exact ⟨n, l0, rfl, hn, hid rfl, hb⟩
  case round =>
    obtain ⟨m, l, rfl, hm, he, ho⟩ := hrel
    have hll : l.length + 1 ≤ 140737488355328 := by
      have := congrArg List.length he.out
      have h1 := num_pos m
      rw [List.length_append, List.length_append] at this
      omega
    by_cases hlt : m < 128
    · have hlt' : ¬ 128 ≤ (m : Int) := by omega
      go_wp2_with (at_builtin; (refine Lib.wpList_append_byte rfl (.tmp 16) (.tmp 19) _ rfl B 5 i0 Try.underlying54 HI.out H0.out H1.out H2.out _ l.length (Lib.byteCells l) rfl W0 _ _ ho rfl hll ?_); intro v' w' ho')
      go_ret
      refine ⟨_, rfl, ?_⟩
      rw [← he.out, num_lt hlt]
      exact Own.snoc ho' (by rw [byte_of m (by omega)])
    · have he2 := he.out
      rw [num_ge hlt, List.append_cons] at he2
      have HE := hid he2
      clear he2 he
      go_wp2_with (at_builtin; (refine Lib.wpList_append_byte rfl (.tmp 9) (.tmp 14) _ rfl B 5 i0 Try.underlying54 HI.out H0.out H1.out H2.out _ l.length (Lib.byteCells l) rfl W0 _ _ ho rfl hll ?_); intro v' w' ho')
      go_roundw
      case rel => exact ⟨m / 128, l ++ [UInt8.ofNat (m % 128 + 128)], by go_num, by omega, HE, Own.snoc ho' (by rw [byte_of _ (by omega)]; omega)⟩
      case measure => simp [intOf]; omega

theorem Own.string {B : Nat} {v : Value} {l : List UInt8} {W0 w : World} (h : Own B v l W0 w) (hl : 0 < l.length) : (convert 54 9 v).run Try.prog w = .ok (.string ⟨l.toArray⟩) w := by
  obtain ⟨ho, _, _⟩ := h
  rcases ho.2 with ⟨_, h0⟩ | ⟨g, cap, cur, fz, rfl, _, _⟩
  · omega
  · have hc := ho.cells (g := g) rfl
    exact run_convert_bytes_back (P := Try.prog) w 54 9 5 ⟨g, 0, none⟩ cap l Try.underlying54 Try.underlying5 Try.underlying9 (fun j hj => by
      rw [hc j (.int .u8 (l[j].toNat : Int)) (by simp [Lib.byteCells, hj])])
theorem Own.below {v : Value} {l : List UInt8} {W0 w : World} (h : Own W0.heap.size v l W0 w) : Below W0.heap.size W0 w := h.2.1

theorem number_c (n : Nat) (w : World) (hn : n < 18446744073709551616) :
    Calls Try.prog 76 #[.int .u64 (n : Int)] w fun e w' => e = .returned (.string ⟨(numL n).toArray⟩) ∧ Below w.heap.size w w' := by
  have HN := hid hn
  clear hn
  go_enter Try.func76, Try.ntmps76
  go_wp2_with (go_at_call 79; ((with_reducible refine (add_c w.heap.size _ [] n w w (Own.nil w) HN.out (by simp)).mono ?_); rintro e w' ⟨v, rfl, ho⟩; have hs := ho.string (num_pos n)))
  go_ret
  exact ⟨rfl, ho.below⟩

/-- the same, the number told however. -/
theorem number_i (x : Int) (n : Nat) (w : World) (hx : x = (n : Int)) (hn : n < 18446744073709551616) :
    Calls Try.prog 76 #[.int .u64 x] w fun e w' => e = .returned (.string ⟨(numL n).toArray⟩) ∧ Below w.heap.size w w' := by
  subst hx
  exact number_c n w hn

theorem signed_c (n : Int) (w : World) (h0 : -9223372036854775808 ≤ n) (h1 : n ≤ 9223372036854775807) :
    Calls Try.prog 77 #[.int .i64 n] w fun e w' => e = .returned (.string ⟨(numL (sgnN n)).toArray⟩) ∧ Below w.heap.size w w' := by
  by_cases hn : n < 0
  · have e : 2 * -(n + 1) + 1 = (sgnN n : Int) := by unfold sgnN; rw [if_pos hn]; omega
    have E := hid e
    clear e
    go_enter Try.func77, Try.ntmps77
    go_wp2_with (go_at_call 76; ((with_reducible refine (number_i _ (sgnN n) _ E.out (sgn_bd n h0 h1)).mono ?_); rintro e w' ⟨rfl, hw⟩))
    go_ret
    exact ⟨rfl, hw⟩
  · have e : 2 * n = (sgnN n : Int) := by unfold sgnN; rw [if_neg hn]; omega
    have E := hid e
    clear e
    go_enter Try.func77, Try.ntmps77
    go_wp2_with (go_at_call 76; ((with_reducible refine (number_i _ (sgnN n) _ E.out (sgn_bd n h0 h1)).mono ?_); rintro e w' ⟨rfl, hw⟩))
    go_ret
    exact ⟨rfl, hw⟩

/-- one byte as a string. -/
theorem one_run (W : World) (x : Int) (c : UInt8) (hx : (c.toNat : Int) = x) :
    (convert 54 9 (.slice (some ⟨W.heap.size, 0, none⟩) 1 1)).run Try.prog (W.alloc (.cells #[.int .u8 x] 5)) = .ok (.string ⟨#[c]⟩) (W.alloc (.cells #[.int .u8 x] 5)) :=
  run_convert_bytes_back (P := Try.prog) (W.alloc (.cells #[.int .u8 x] 5)) 54 9 5 ⟨W.heap.size, 0, none⟩ 1 [c] Try.underlying54 Try.underlying5 Try.underlying9 (fun j hj => by
    obtain rfl : j = 0 := by simpa using hj
    subst hx
    simp [Addr.add])
theorem ret_str {l k : List UInt8} (h : l = k) : Ending.returned (.string ⟨l.toArray⟩) = .returned (.string ⟨k.toArray⟩) := by rw [h]
theorem add_run (l k : List UInt8) (W : World) (h : l.length + k.length ≤ 140737488355328) : (Op.stringOp .add (⟨l.toArray⟩ : ByteArray) ⟨k.toArray⟩).run Try.prog W = .ok (.string ⟨(l ++ k).toArray⟩) W := by
  rw [run_string_add_sum W _ _ (by show l.toArray.size + k.toArray.size ≤ _; rw [List.size_toArray, List.size_toArray]; omega), ByteArray.mk_append_mk]

set_option maxRecDepth 100000 in
set_option maxHeartbeats 1000000 in
theorem rnumber_c (n : Nat) (w : World) (hn : n < 18446744073709551616) :
    Calls Try.prog 23 #[.int .u64 (n : Int)] w fun e w' => e = .returned (.string ⟨(numL n).toArray⟩) ∧ Below w.heap.size w w' := by
  have hlen := num_len10 n hn
  go_enter Try.func23, Try.ntmps23
  go_wp2
  go_loopw [0, 3] (fun x v wr => ∃ (m : Nat) (l : List UInt8), x = .int .u64 m ∧ m < 18446744073709551616 ∧ v = .string ⟨l.toArray⟩ ∧ Hid (l ++ numL m = numL n) ∧ Below w.heap.size w wr) (fun x _ _ => (intOf x).toNat)
  case atStart => exact ⟨n, [], rfl, hn, rfl, hid rfl, Below.refl _ _⟩
  case round =>
    obtain ⟨m, l, rfl, hm, rfl, he, hw⟩ := hrel
    have hll : l.length + 1 ≤ 140737488355328 := by
      have := congrArg List.length he.out
      have h1 := num_pos m
      rw [List.length_append] at this
      omega
    by_cases hlt : m < 128
    · have hr := one_run wr (m : Int) (UInt8.ofNat m) (byte_of m (by omega))
      have ha := fun W => add_run l [UInt8.ofNat m] W hll
      go_wp2_with fail
      go_ret
      exact ⟨ret_str (by rw [← he.out, num_lt hlt]), hw.alloc hw.size _⟩
    · have he2 := he.out
      rw [num_ge hlt, List.append_cons] at he2
      have hcv : ((UInt8.ofNat (m % 128 + 128)).toNat : Int) = 128 + (m : Int) % 128 := by rw [byte_of _ (by omega)]; omega
      generalize UInt8.ofNat (m % 128 + 128) = c at hcv he2
      have hr := one_run wr (128 + (m : Int) % 128) c hcv
      have ha := fun W => add_run l [c] W hll
      have HE := hid he2
      clear he2 he hcv
      go_wp2_with fail
      go_roundw
      case rel => exact ⟨m / 128, l ++ [c], by go_num, by omega, rfl, HE, hw.alloc hw.size _⟩
      case measure => simp [intOf]; omega

theorem rnumber_i (x : Int) (n : Nat) (w : World) (hx : x = (n : Int)) (hn : n < 18446744073709551616) :
    Calls Try.prog 23 #[.int .u64 x] w fun e w' => e = .returned (.string ⟨(numL n).toArray⟩) ∧ Below w.heap.size w w' := by
  subst hx
  exact rnumber_c n w hn

theorem rsigned_c (n : Int) (w : World) (h0 : -9223372036854775808 ≤ n) (h1 : n ≤ 9223372036854775807) :
    Calls Try.prog 39 #[.int .i64 n] w fun e w' => e = .returned (.string ⟨(numL (sgnN n)).toArray⟩) ∧ Below w.heap.size w w' := by
  by_cases hn : n < 0
  · have e : 2 * -(n + 1) + 1 = (sgnN n : Int) := by unfold sgnN; rw [if_pos hn]; omega
    have E := hid e
    clear e
    go_enter Try.func39, Try.ntmps39
    go_wp2_with (go_at_call 23; ((with_reducible refine (rnumber_i _ (sgnN n) _ E.out (sgn_bd n h0 h1)).mono ?_); rintro e w' ⟨rfl, hw⟩))
    go_ret
    exact ⟨rfl, hw⟩
  · have e : 2 * n = (sgnN n : Int) := by unfold sgnN; rw [if_neg hn]; omega
    have E := hid e
    clear e
    go_enter Try.func39, Try.ntmps39
    go_wp2_with (go_at_call 23; ((with_reducible refine (rnumber_i _ (sgnN n) _ E.out (sgn_bd n h0 h1)).mono ?_); rintro e w' ⟨rfl, hw⟩))
    go_ret
    exact ⟨rfl, hw⟩

/-- the answer of reading a whole number with a sign. -/
def rsV (r : Nat × Nat × Nat) : Value := .tuple #[.int .i64 (unsN r.1), .int .i64 (r.2.1 : Int), .int .i64 (r.2.2 : Int)]

set_option maxRecDepth 100000 in
theorem readS_c (s : ByteArray) (w : World) (hs : s.size ≤ maxLen) :
    Calls Try.prog 85 #[.string s] w fun e w' => e = .returned (rsV (rdN s.data.toList)) ∧ w = w' := by
  have hb := (rd_bd s.data.toList).1
  have H := hid (read_c s w hs)
  generalize rdN s.data.toList = r at hb H
  obtain ⟨a, b, c⟩ := r
  dsimp only at hb
  have e : rsV (a, b, c) = .tuple #[.int .i64 (unsN a), .int .i64 (b : Int), .int .i64 (c : Int)] := rfl
  have e2 : rdV (a, b, c) = .tuple #[.int .u64 (a : Int), .int .i64 (b : Int), .int .i64 (c : Int)] := rfl
  rw [e]
  rw [e2] at H
  clear e e2
  unfold unsN
  by_cases h : a % 2 = 1
  · rw [if_pos h]
    have h' : ((a : Int) % 2 == 1) = true := by simp; omega
    clear h
    go_enter Try.func85, Try.ntmps85
    go_wp2_with (go_at_call 84; ((with_reducible refine H.out.mono ?_); rintro e w' ⟨rfl, rfl⟩))
    go_ret3
    exact ⟨rfl, rfl⟩
  · rw [if_neg h]
    have h' : ((a : Int) % 2 == 1) = false := by simp; omega
    clear h
    go_enter Try.func85, Try.ntmps85
    go_wp2_with (go_at_call 84; ((with_reducible refine H.out.mono ?_); rintro e w' ⟨rfl, rfl⟩))
    go_ret3
    exact ⟨rfl, rfl⟩
end Go.Proofs.Ythbncbdnpeglfaa.Pk
