/- What each function of layer 5 (sum), and each of its document's answers, returns when it is called; those that make bytes leave all old memory as it was. -/
import Derived.Test.YthbncbdnpeglfaaRows
import Derived.WalkKit
import Derived.LoopTactic
import Derived.Laws.BitsLemmas
import Derived.Laws.BitsAllLaws
import Derived.Test.YthbncbdnpeglfaaFxMath
import Derived.Test.YthbncbdnpeglfaaSmMath
namespace Go.Proofs.Ythbncbdnpeglfaa.Sm
open Go.RowKit Go.Proofs.Ythbncbdnpeglfaa.Fx

theorem low_and (n : Int) (h0 : 0 ≤ n) (h1 : n < 4294967296) : bits .and .u32 n 65535 = n % 65536 := by
  rw [u32_and n 65535 h0 h1 (by omega) (by omega)]
  have := Nat.and_two_pow_sub_one_eq_mod n.toNat 16
  rw [show (65535 : Int).toNat = 2 ^ 16 - 1 by decide, this]
  omega
theorem or_whole (a b : Int) (ha : 0 ≤ a) (ha1 : a < 65536) (hb : 0 ≤ b) (hb1 : b < 65536) : bits .or .u32 (a * 65536) b = a * 65536 + b := by
  rw [u32_or _ _ (by omega) (by omega) (by omega) (by omega), nat_join 16 _ _ (by omega) (by omega)]
  omega

theorem halves_c (n : Int) (w : World) (h0 : 0 ≤ n) (h1 : n < 4294967296) :
    Calls Try.prog 45 #[.int .u32 n] w fun e w' => e = .returned (.tuple #[.int .u32 (n / 65536), .int .u32 (n % 65536)]) ∧ w = w' := by
  rw [← low_and n h0 h1]
  go_enter Try.func45, Try.ntmps45
  go_wp2
  go_ret2
  exact ⟨rfl, rfl⟩

theorem whole_c (a b : Int) (w : World) (ha : 0 ≤ a) (ha1 : a < 65536) (hb : 0 ≤ b) (hb1 : b < 65536) :
    Calls Try.prog 46 #[.int .u32 a, .int .u32 b] w fun e w' => e = .returned (.int .u32 (a * 65536 + b)) ∧ w = w' := by
  rw [← or_whole a b ha ha1 hb hb1]
  go_enter Try.func46, Try.ntmps46
  go_wp2
  go_ret
  exact ⟨rfl, rfl⟩

theorem take_snoc (s : ByteArray) (k : Nat) (h : k < s.size) : s.data.toList.take (k + 1) = s.data.toList.take k ++ [s[k]] := by
  rw [List.take_succ_eq_append_getElem (by simpa using h)]; rfl
/-- what holds ahead of byte k: both halves. -/
def RunTo (p : Int × Int) (s : ByteArray) (k : Nat) (a b : Int) : Prop := runP p (s.data.toList.take k) = (a, b)
theorem RunTo.bd {p : Int × Int} {s : ByteArray} {k : Nat} {a b : Int} (h : RunTo p s k a b) (hp : InP p) : (0 ≤ a ∧ a < 65521) ∧ (0 ≤ b ∧ b < 65521) := by
  have := runs_in (s.data.toList.take k) p hp
  rw [h] at this
  exact this
theorem RunTo.next {p : Int × Int} {s : ByteArray} {k : Nat} {a b : Int} (h : RunTo p s k a b) (hk : k < s.size) :
    RunTo p s (k + 1) ((a + (b + s[k].toNat) % 65521) % 65521) ((b + s[k].toNat) % 65521) := by
  unfold RunTo at h ⊢
  rw [take_snoc s k hk, run_snoc, h]; rfl
theorem RunTo.all {p : Int × Int} {s : ByteArray} {k : Nat} {a b : Int} (h : RunTo p s k a b) (hk : ¬ k < s.size) : runP p s.data.toList = (a, b) := by
  unfold RunTo at h
  rwa [List.take_of_length_le (by simp; omega)] at h
theorem more_of {n a b : Int} {l : List UInt8} (h : runP (startP n) l = (a, b)) : a * 65536 + b = moreI n l := by unfold moreI; rw [h]

set_option maxHeartbeats 400000 in
theorem more_c (n : Int) (s : ByteArray) (w : World) (hs : s.size ≤ maxLen) (h0 : 0 ≤ n) (h1 : n < 4294967296) :
    Calls Try.prog 37 #[.int .u32 n, .string s] w fun e w' => e = .returned (.int .u32 (moreI n s.data.toList)) ∧ w = w' := by
  unfold maxLen at hs
  go_enter Try.func37, Try.ntmps37
  go_wp2_with (go_at_call 45; ((with_reducible refine (halves_c _ _ h0 h1).mono ?_); rintro e w' ⟨rfl, rfl⟩))
  go_loop [5, 6, 19] (fun x y i => ∃ (k : Nat) (a b : Int), k ≤ s.size ∧ i = .int .i64 k ∧ x = .int .u32 a ∧ y = .int .u32 b ∧ RunTo (startP n) s k a b) (fun _ _ i => s.size - (intOf i).toNat)
  case atStart => exact ⟨0, _, _, Nat.zero_le _, rfl, rfl, rfl, rfl⟩
  case round =>
    obtain ⟨k, a, b, hk, rfl, rfl, rfl, hr⟩ := hrel
    obtain ⟨⟨ha, ha1⟩, hb, hb1⟩ := hr.bd (start_in n)
    by_cases hlt : k < s.size
    · have hn := hr.next hlt
      have hc := s[k].toNat_lt
      clear hr
      go_wp2_with (fail)
      go_round
      case rel => exact ⟨k + 1, _, _, by omega, by go_num, rfl, rfl, hn⟩
      case measure => simp [intOf]; omega
    · have he := hid (more_of (hr.all hlt))
      clear hr
      go_wp2_with (go_at_call 46; ((with_reducible refine (whole_c _ _ _ ha (by omega) hb (by omega)).mono ?_); rintro e w' ⟨rfl, rfl⟩))
      go_ret
      exact ⟨ret_int he.out, rfl⟩

theorem of_c (s : ByteArray) (w : World) (hs : s.size ≤ maxLen) :
    Calls Try.prog 19 #[.string s] w fun e w' => e = .returned (.int .u32 (ofI s.data.toList)) ∧ w = w' := by
  go_enter Try.func19, Try.ntmps19
  go_wp2_with (go_at_call 37; ((with_reducible refine (more_c _ _ _ hs (by omega) (by omega)).mono ?_); rintro e w' ⟨rfl, rfl⟩))
  go_ret
  exact ⟨rfl, rfl⟩

set_option maxHeartbeats 400000 in
theorem rmore_c (n : Int) (s : ByteArray) (w : World) (hs : s.size ≤ maxLen) (h0 : 0 ≤ n) (h1 : n < 4294967296) :
    Calls Try.prog 40 #[.int .u32 n, .string s] w fun e w' => e = .returned (.int .u32 (moreI n s.data.toList)) ∧ w = w' := by
  unfold maxLen at hs
  go_enter Try.func40, Try.ntmps40
  go_wp2
  go_loop [5, 6, 7] (fun y x i => ∃ (k : Nat) (a b : Int), k ≤ s.size ∧ i = .int .i64 k ∧ x = .int .u64 a ∧ y = .int .u64 b ∧ RunTo (startP n) s k a b) (fun _ _ i => s.size - (intOf i).toNat)
  case atStart => exact ⟨0, _, _, Nat.zero_le _, rfl, rfl, rfl, rfl⟩
  case round =>
    obtain ⟨k, a, b, hk, rfl, rfl, rfl, hr⟩ := hrel
    obtain ⟨⟨ha, ha1⟩, hb, hb1⟩ := hr.bd (start_in n)
    by_cases hlt : k < s.size
    · have hn := hr.next hlt
      have hc := s[k].toNat_lt
      clear hr
      go_wp2_with (fail)
      go_round
      case rel => exact ⟨k + 1, _, _, by omega, by go_num, rfl, rfl, hn⟩
      case measure => simp [intOf]; omega
    · have he := hid (more_of (hr.all hlt))
      clear hr
      go_wp2_with (fail)
      go_ret
      exact ⟨ret_int he.out, rfl⟩

theorem rof_c (s : ByteArray) (w : World) (hs : s.size ≤ maxLen) :
    Calls Try.prog 25 #[.string s] w fun e w' => e = .returned (.int .u32 (ofI s.data.toList)) ∧ w = w' := by
  go_enter Try.func25, Try.ntmps25
  go_wp2_with (go_at_call 40; ((with_reducible refine (rmore_c _ _ _ hs (by omega) (by omega)).mono ?_); rintro e w' ⟨rfl, rfl⟩))
  go_ret
  exact ⟨rfl, rfl⟩

end Go.Proofs.Ythbncbdnpeglfaa.Sm
