/- What the functions of layer 6 (pack) that read numbers, and the document's answers for them, return when they are called. -/
import Derived.Test.YthbncbdnpeglfaaRows
import Derived.WalkKit
import Derived.LoopTactic
import Derived.Laws.BitsLemmas
import Derived.Laws.BitsAllLaws
import Derived.Test.YthbncbdnpeglfaaFxMath
import Derived.Test.YthbncbdnpeglfaaPkRunM
namespace Go.Proofs.Ythbncbdnpeglfaa.Pk
open Go.RowKit Go.Proofs.Ythbncbdnpeglfaa.Fx

theorem may_c (c i : Nat) (w : World) (hc : c < 256) (hi : i ≤ 9223372036854775807) :
    Calls Try.prog 86 #[.int .u8 (c : Int), .int .i64 (i : Int)] w fun e w' => e = .returned (.bool (mayB c i)) ∧ w = w' := by
  by_cases h1 : 9 < i
  · have hb : mayB c i = false := by rw [← Bool.not_eq_true, may_iff]; omega
    rw [hb]
    go_enter Try.func86, Try.ntmps86
    go_wp2
    go_ret
    exact ⟨rfl, rfl⟩
  · by_cases h2 : i = 9
    · subst h2
      by_cases h3 : 1 < c % 128
      · have hb : mayB c 9 = false := by rw [← Bool.not_eq_true, may_iff]; omega
        rw [hb]
        go_enter Try.func86, Try.ntmps86
        go_wp2
        go_ret
        exact ⟨rfl, rfl⟩
      · by_cases h4 : c = 0
        · subst h4
          go_enter Try.func86, Try.ntmps86
          go_wp2
          go_ret
          exact ⟨rfl, rfl⟩
        · have hb : mayB c 9 = true := by rw [may_iff]; omega
          have hn : ((c : Int) != 0) = true := by simp; omega
          rw [hb]
          go_enter Try.func86, Try.ntmps86
          go_wp2
          go_ret
          exact ⟨rfl, rfl⟩
    · have hn9 : ((i : Int) == 9) = false := by simp; omega
      by_cases h4 : c = 0
      · subst h4
        by_cases h5 : i = 0
        · subst h5
          go_enter Try.func86, Try.ntmps86
          go_wp2
          go_ret
          exact ⟨rfl, rfl⟩
        · have hb : mayB 0 i = false := by rw [← Bool.not_eq_true, may_iff]; omega
          have hn0 : ((i : Int) == 0) = false := by simp; omega
          rw [hb]
          go_enter Try.func86, Try.ntmps86
          go_wp2
          go_ret
          exact ⟨rfl, rfl⟩
      · have hb : mayB c i = true := by rw [may_iff]; omega
        have hn : ((c : Int) != 0) = true := by simp; omega
        rw [hb]
        go_enter Try.func86, Try.ntmps86
        go_wp2
        go_ret
        exact ⟨rfl, rfl⟩

theorem pow_seven (k : Nat) : (128 : Nat) ^ k = 2 ^ (7 * k) := by rw [Nat.pow_mul]
/-- what holds ahead of byte k. -/
def RdTo (s : ByteArray) (k acc : Nat) : Prop := rdN s.data.toList = readN (s.data.toList.drop k) k acc ∧ acc < 128 ^ k ∧ acc < 18446744073709551616
theorem drop_cons (s : ByteArray) (k : Nat) (h : k < s.size) : s.data.toList.drop k = s[k] :: s.data.toList.drop (k + 1) := by
  rw [List.drop_eq_getElem_cons (by simpa using h)]; rfl
theorem RdTo.start (s : ByteArray) : RdTo s 0 0 := ⟨by rw [List.drop_zero]; rfl, by decide, by decide⟩
theorem RdTo.short {s : ByteArray} {k acc : Nat} (h : RdTo s k acc) (hk : ¬ k < s.size) : rdN s.data.toList = (0, 0, 3) := by
  rw [h.1, List.drop_of_length_le (by simp; omega)]; rfl
theorem RdTo.no {s : ByteArray} {k acc : Nat} (h : RdTo s k acc) (hk : k < s.size) (hm : mayB s[k].toNat k = false) : rdN s.data.toList = (0, 0, 4) := by
  rw [h.1, drop_cons s k hk, read_no hm]
theorem may_bd {s : ByteArray} {k acc : Nat} (h : RdTo s k acc) (hk : k < s.size) (hm : mayB s[k].toNat k = true) :
    k ≤ 9 ∧ acc + s[k].toNat % 128 * 128 ^ k < 128 ^ (k + 1) ∧ acc + s[k].toNat % 128 * 128 ^ k < 18446744073709551616 := by
  have hy := (may_iff _ _).1 hm
  have ha := h.2.1
  have bd : acc + s[k].toNat % 128 * 128 ^ k < 128 ^ (k + 1) := by
    have h1 : s[k].toNat % 128 * 128 ^ k ≤ 127 * 128 ^ k := Nat.mul_le_mul_right _ (by omega)
    rw [Nat.pow_succ]; omega
  refine ⟨by omega, bd, ?_⟩
  rcases Nat.lt_or_ge k 9 with h9 | h9
  · have h2 : 128 ^ (k + 1) ≤ 128 ^ 9 := Nat.pow_le_pow_right (by decide) (by omega)
    have h3 : (128 : Nat) ^ 9 < 18446744073709551616 := by decide
    omega
  · obtain rfl : k = 9 := by omega
    have h1 : s[9].toNat % 128 * 128 ^ 9 ≤ 1 * 128 ^ 9 := Nat.mul_le_mul_right _ (by omega)
    have h3 : (128 : Nat) ^ 9 + 128 ^ 9 = 18446744073709551616 := by decide
    omega
theorem RdTo.last {s : ByteArray} {k acc : Nat} (h : RdTo s k acc) (hk : k < s.size) (hm : mayB s[k].toNat k = true) (ht : s[k].toNat < 128) : rdN s.data.toList = (acc + s[k].toNat % 128 * 128 ^ k, k + 1, 0) := by
  rw [h.1, drop_cons s k hk, read_end hm ht]
theorem RdTo.next {s : ByteArray} {k acc : Nat} (h : RdTo s k acc) (hk : k < s.size) (hm : mayB s[k].toNat k = true) (ht : ¬ s[k].toNat < 128) : RdTo s (k + 1) (acc + s[k].toNat % 128 * 128 ^ k) := by
  have hb := may_bd h hk hm
  exact ⟨by rw [h.1, drop_cons s k hk, read_on hm ht], hb.2.1, hb.2.2⟩

/-- the answer of reading a number. -/
def rdV (r : Nat × Nat × Nat) : Value := .tuple #[.int .u64 (r.1 : Int), .int .i64 (r.2.1 : Int), .int .i64 (r.2.2 : Int)]
theorem rd_ret {a : Nat × Nat × Nat} {x y z : Nat} (h : a = (x, y, z)) : Ending.returned (.tuple #[.int .u64 (x : Int), .int .i64 (y : Int), .int .i64 (z : Int)]) = .returned (rdV a) := by rw [h]; rfl

theorem shift_in {s : ByteArray} {k acc : Nat} (h : RdTo s k acc) (hk : k < s.size) (h9 : k ≤ 9) (hb : acc + s[k].toNat % 128 * 128 ^ k < 18446744073709551616) :
    ∃ y z : Nat, Op.shift .shl .u64 ((s[k].toNat : Int) % 128) .i64 (wrap64 (7 * (k : Int))) = pure (.int .u64 (y : Int)) ∧ bits .or .u64 (acc : Int) (y : Int) = (z : Int) ∧ z = acc + s[k].toNat % 128 * 128 ^ k := by
  refine ⟨s[k].toNat % 128 * 128 ^ k, _, ?_, ?_, rfl⟩
  · rw [IntWalk.wrap64_in _ (by omega), shift_shl .u64 .i64 _ _ (by omega) (by show 7 * (k : Int) ≤ 64; omega), IntKind.wrap_u64]
    have e : (7 * (k : Int)).toNat = 7 * k := by omega
    have e2 : ((s[k].toNat : Int) % 128 * 2 ^ (7 * k)) = ((s[k].toNat % 128 * 128 ^ k : Nat) : Int) := by
      rw [pow_seven, Int.natCast_mul, Int.natCast_pow]; rfl
    rw [e, e2]
    congr 2
    omega
  · rw [u64_or_nat _ _ (by omega) (by omega), Nat.or_comm, nat_join (7 * k) _ _ (by rw [← pow_seven]; exact Nat.mul_mod_left _ _) (by rw [← pow_seven]; exact h.2.1), Nat.add_comm]

set_option maxRecDepth 100000 in
set_option maxHeartbeats 1000000 in
theorem read_c (s : ByteArray) (w : World) (hs : s.size ≤ maxLen) :
    Calls Try.prog 84 #[.string s] w fun e w' => e = .returned (rdV (rdN s.data.toList)) ∧ w = w' := by
  unfold maxLen at hs
  go_enter Try.func84, Try.ntmps84
  go_wp2
  go_loop [5, 9] (fun x i => ∃ (k acc : Nat), k ≤ s.size ∧ i = .int .i64 k ∧ x = .int .u64 acc ∧ RdTo s k acc) (fun _ i => s.size - (intOf i).toNat)
  case atStart => exact ⟨0, 0, Nat.zero_le _, rfl, rfl, RdTo.start s⟩
  case round =>
    obtain ⟨k, acc, hk, rfl, rfl, hr⟩ := hrel
    by_cases hlt : k < s.size
    · have hc := s[k].toNat_lt
      by_cases hm : mayB s[k].toNat k = true
      · have hb := may_bd hr hlt hm
        obtain ⟨y, z, hsh, hor, hz⟩ := shift_in hr hlt hb.1 hb.2.2
        have HZ := hid hz
        clear hb hz
        have HM := hid hm
        clear hm
        by_cases ht : s[k].toNat < 128
        · have HR := hid (hr.last hlt HM.out ht)
          clear hr
          go_wp2_with (go_at_call 86; ((with_reducible refine (may_c _ _ _ hc (by omega)).mono ?_); rintro e w' ⟨rfl, rfl⟩; rw [HM.out]))
          go_ret3
          exact ⟨rd_ret (by rw [HR.out, HZ.out]), rfl⟩
        · have HR := hid (hr.next hlt HM.out ht)
          clear hr
          go_wp2_with (go_at_call 86; ((with_reducible refine (may_c _ _ _ hc (by omega)).mono ?_); rintro e w' ⟨rfl, rfl⟩; rw [HM.out]))
          go_round
          case rel => exact ⟨k + 1, z, by omega, by go_num, rfl, by rw [HZ.out]; exact HR.out⟩
          case measure => simp [intOf]; omega
      · have he := hid (hr.no hlt (by simpa using hm))
        have hm0 : mayB s[k].toNat k = false := by simpa using hm
        have HM := hid hm0
        clear hr hm hm0
        go_wp2_with (go_at_call 86; ((with_reducible refine (may_c _ _ _ hc (by omega)).mono ?_); rintro e w' ⟨rfl, rfl⟩; rw [HM.out]))
        go_ret3
        exact ⟨rd_ret he.out, rfl⟩
    · have he := hid (hr.short hlt)
      clear hr
      go_wp2_with (fail)
      go_ret3
      exact ⟨rd_ret he.out, rfl⟩

theorem bits_u64 (a : Nat) (h : a < 18446744073709551616) : IntKind.u64.wrap (a : Int) = (a : Int) := by rw [IntKind.wrap_u64]; omega
/-- the scale at place k, gone round. -/
def scaleN (k : Nat) : Nat := 128 ^ k % 18446744073709551616
theorem scale_next (k : Nat) : IntKind.u64.wrap ((scaleN k : Int) * 128) = (scaleN (k + 1) : Int) := by
  unfold scaleN
  rw [IntKind.wrap_u64, Nat.pow_succ]
  omega
theorem sum_in {s : ByteArray} {k acc : Nat} (hk : k < s.size) (h9 : k ≤ 9) (hb : acc + s[k].toNat % 128 * 128 ^ k < 18446744073709551616) :
    ∃ y z : Nat, IntKind.u64.wrap ((s[k].toNat : Int) % 128 * (scaleN k : Int)) = (y : Int) ∧ IntKind.u64.wrap ((acc : Int) + (y : Int)) = (z : Int) ∧ z = acc + s[k].toNat % 128 * 128 ^ k := by
  have e : scaleN k = 128 ^ k := by
    unfold scaleN
    have h2 : 128 ^ k ≤ 128 ^ 9 := Nat.pow_le_pow_right (by decide) (by omega)
    have h3 : (128 : Nat) ^ 9 < 18446744073709551616 := by decide
    rw [Nat.mod_eq_of_lt (by omega)]
  refine ⟨s[k].toNat % 128 * 128 ^ k, _, ?_, ?_, rfl⟩
  · rw [e, ← bits_u64 (s[k].toNat % 128 * 128 ^ k) (by omega)]
    congr 1
  · rw [← bits_u64 (acc + s[k].toNat % 128 * 128 ^ k) hb]
    congr 1

set_option maxRecDepth 100000 in
set_option maxHeartbeats 1000000 in
theorem rread_c (s : ByteArray) (w : World) (hs : s.size ≤ maxLen) :
    Calls Try.prog 41 #[.string s] w fun e w' => e = .returned (rdV (rdN s.data.toList)) ∧ w = w' := by
  unfold maxLen at hs
  go_enter Try.func41, Try.ntmps41
  go_wp2
  go_loop [5, 6, 7] (fun x c i => ∃ (k acc : Nat), k ≤ s.size ∧ i = .int .i64 k ∧ x = .int .u64 acc ∧ c = .int .u64 (scaleN k) ∧ RdTo s k acc) (fun _ _ i => s.size - (intOf i).toNat)
  case atStart => exact ⟨0, 0, Nat.zero_le _, rfl, rfl, rfl, RdTo.start s⟩
  case round =>
    obtain ⟨k, acc, hk, rfl, rfl, rfl, hr⟩ := hrel
    by_cases hlt : k < s.size
    · have hc := s[k].toNat_lt
      by_cases hm : mayB s[k].toNat k = true
      · have hb := may_bd hr hlt hm
        obtain ⟨y, z, hsh, hor, hz⟩ := sum_in hlt hb.1 hb.2.2
        have hsn := scale_next k
        have hk9 : ¬ 9 < k := by omega
        have hk8 : k ≤ 1000 := by omega
        have HZ := hid hz
        have hy := (may_iff _ _).1 hm
        have hyc : ((k = 9 ∧ s[k].toNat % 128 ≤ 1) ∨ ((k : Int) == 9) = false) ∧ ((¬ 0 < k ∧ ((s[k].toNat : Int) == 0) = true) ∨ ((s[k].toNat : Int) == 0) = false) := by
          constructor
          · by_cases c : k = 9
            · left; omega
            · right; simp; omega
          · by_cases c : s[k].toNat = 0
            · left; exact ⟨by omega, by simp [c]⟩
            · right; simp; omega
        by_cases ht : s[k].toNat < 128
        · have HR := hid (hr.last hlt hm ht)
          clear hr hm hb hz hy
          rcases hyc with ⟨⟨rfl, h1⟩ | h1, ⟨h2, h3⟩ | h2⟩
          · omega
          all_goals
            go_wp2_with fail
            go_ret3
            exact ⟨rd_ret (by rw [HR.out, HZ.out]), rfl⟩
        · have HR := hid (hr.next hlt hm ht)
          clear hr hm hb hz hy
          rcases hyc with ⟨⟨rfl, h1⟩ | h1, ⟨h2, h3⟩ | h2⟩
          · omega
          all_goals
            go_wp2_with fail
            go_round
            case rel => exact ⟨_, z, by omega, by go_num, rfl, rfl, by rw [HZ.out]; exact HR.out⟩
            case measure => simp [intOf]; omega
      · have he := hid (hr.no hlt (by simpa using hm))
        have hyc : 9 < k ∨ (k = 9 ∧ 1 < s[k].toNat % 128) ∨ (s[k].toNat = 0 ∧ 0 < k ∧ ¬ 9 < k) := by
          have := mt (may_iff _ _).2 hm
          omega
        clear hr hm
        rcases hyc with h1 | ⟨rfl, h1⟩ | ⟨h1, h2, h3⟩
        · go_wp2_with fail
          go_ret3
          exact ⟨rd_ret he.out, rfl⟩
        · go_wp2_with fail
          go_ret3
          exact ⟨rd_ret he.out, rfl⟩
        · have h4 : s[k].toNat ≤ 0 := by omega
          clear h1
          by_cases h5 : k = 9
          · subst h5
            go_wp2_with fail
            go_ret3
            exact ⟨rd_ret he.out, rfl⟩
          · have h6 : ((k : Int) == 9) = false := by simp; omega
            go_wp2_with fail
            go_ret3
            exact ⟨rd_ret he.out, rfl⟩
    · have he := hid (hr.short hlt)
      clear hr
      go_wp2_with (fail)
      go_ret3
      exact ⟨rd_ret he.out, rfl⟩
end Go.Proofs.Ythbncbdnpeglfaa.Pk
