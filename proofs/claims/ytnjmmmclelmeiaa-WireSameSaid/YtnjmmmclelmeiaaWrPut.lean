/- What put of layer 7 (wire) returns: the bytes, and a word's behind them. -/
import Derived.Test.YtnjmmmclelmeiaaWrCalls
namespace Go.Proofs.Ytnjmmmclelmeiaa.Wr
open Go.RowKit Go.Proofs.Ytnjmmmclelmeiaa.Fx Go.Proofs.Ytnjmmmclelmeiaa.Pk

theorem byte_is (x : Nat) (y : Int) (h : y = ((x % 256 : Nat) : Int)) : ((UInt8.ofNat x).toNat : Int) = y := by rw [nat_of, h]

set_option maxRecDepth 100000 in
set_option maxHeartbeats 2000000 in
theorem put4_c (B : Nat) (v : Value) (l0 : List UInt8) (n : Nat) (W0 w : World) (hb : Own B v l0 W0 w) (hn : n < 4294967296) (hl : l0.length ≤ 1073741824) :
    Calls Try.prog 19 #[v, .int .u32 (n : Int)] w (Gave B (l0 ++ w4 n) W0) := by
  obtain ⟨i0, hi, hz⟩ := Option.map_eq_some_iff.1 Pk.info_byte
  obtain ⟨hz0, hz1, hz2⟩ := Pk.info_parts hz
  have HI := hid hi
  have H0 := hid hz0
  have H1 := hid hz1
  have H2 := hid hz2
  clear hi hz hz0 hz1 hz2
  go_enter Try.func19, Try.ntmps19
  go_wp2_with (go_at_call 38; ((with_reducible refine (size4_c _).mono ?_); rintro e w' ⟨rfl, rfl⟩))
  go_loopw [0, 5] (fun v i wr => ∃ l : List UInt8, Own B v l W0 wr ∧ ((i = .int .i64 3 ∧ l = l0) ∨ (i = .int .i64 2 ∧ l = l0 ++ [UInt8.ofNat (n / 16777216)]) ∨ (i = .int .i64 1 ∧ l = l0 ++ [UInt8.ofNat (n / 16777216)] ++ [UInt8.ofNat (n / 65536)]) ∨ (i = .int .i64 0 ∧ l = l0 ++ [UInt8.ofNat (n / 16777216)] ++ [UInt8.ofNat (n / 65536)] ++ [UInt8.ofNat (n / 256)]) ∨ (i = .int .i64 (-1) ∧ l = l0 ++ w4 n))) (fun _ i _ => (intOf i + 1).toNat)
  case atStart => exact ⟨l0, hb, .inl ⟨rfl, rfl⟩⟩
  case round =>
    obtain ⟨l, ho, hrel⟩ := hrel
    have hll : l.length + 1 ≤ 140737488355328 := by
      rcases hrel with ⟨_, rfl⟩ | ⟨_, rfl⟩ | ⟨_, rfl⟩ | ⟨_, rfl⟩ | ⟨_, rfl⟩ <;> (try simp only [List.length_append, List.length_cons, List.length_nil, w4_len]) <;> omega
    rcases hrel with ⟨rfl, hq⟩ | ⟨rfl, hq⟩ | ⟨rfl, hq⟩ | ⟨rfl, hq⟩ | ⟨rfl, hq⟩
    · have HQ := hid hq
      clear hq
      go_wp2_with (at_builtin; (refine Lib.wpList_append_byte rfl (.tmp 12) (.tmp 18) _ rfl B 5 i0 Try.underlying24 HI.out H0.out H1.out H2.out _ l.length (Lib.byteCells l) rfl W0 _ _ ho rfl hll ?_); intro v' w' ho')
      go_roundw
      case rel => exact ⟨l ++ [UInt8.ofNat (n / 16777216)], Own.snoc ho' (byte_is _ _ (by omega)), .inr (.inl ⟨rfl, by rw [HQ.out]⟩)⟩
      case measure => decide
    · have HQ := hid hq
      clear hq
      go_wp2_with (at_builtin; (refine Lib.wpList_append_byte rfl (.tmp 12) (.tmp 18) _ rfl B 5 i0 Try.underlying24 HI.out H0.out H1.out H2.out _ l.length (Lib.byteCells l) rfl W0 _ _ ho rfl hll ?_); intro v' w' ho')
      go_roundw
      case rel => exact ⟨l ++ [UInt8.ofNat (n / 65536)], Own.snoc ho' (byte_is _ _ (by omega)), .inr (.inr (.inl ⟨rfl, by rw [HQ.out]⟩))⟩
      case measure => decide
    · have HQ := hid hq
      clear hq
      go_wp2_with (at_builtin; (refine Lib.wpList_append_byte rfl (.tmp 12) (.tmp 18) _ rfl B 5 i0 Try.underlying24 HI.out H0.out H1.out H2.out _ l.length (Lib.byteCells l) rfl W0 _ _ ho rfl hll ?_); intro v' w' ho')
      go_roundw
      case rel => exact ⟨l ++ [UInt8.ofNat (n / 256)], Own.snoc ho' (byte_is _ _ (by omega)), .inr (.inr (.inr (.inl ⟨rfl, by rw [HQ.out]⟩)))⟩
      case measure => decide
    · have HQ := hid hq
      clear hq
      go_wp2_with (at_builtin; (refine Lib.wpList_append_byte rfl (.tmp 12) (.tmp 18) _ rfl B 5 i0 Try.underlying24 HI.out H0.out H1.out H2.out _ l.length (Lib.byteCells l) rfl W0 _ _ ho rfl hll ?_); intro v' w' ho')
      go_roundw
      case rel => exact ⟨l ++ [UInt8.ofNat n], Own.snoc ho' (byte_is _ _ (by omega)), .inr (.inr (.inr (.inr ⟨rfl, by rw [HQ.out]; simp [w4]⟩)))⟩
      case measure => decide
    · subst hq
      go_wp2_with fail
      go_ret
      exact ⟨_, rfl, ho⟩

set_option maxRecDepth 100000 in
set_option maxHeartbeats 2000000 in
theorem put2_c (B : Nat) (v : Value) (l0 : List UInt8) (n : Nat) (W0 w : World) (hb : Own B v l0 W0 w) (hn : n < 65536) (hl : l0.length ≤ 1073741824) :
    Calls Try.prog 20 #[v, .int .u16 (n : Int)] w (Gave B (l0 ++ w2 n) W0) := by
  obtain ⟨i0, hi, hz⟩ := Option.map_eq_some_iff.1 Pk.info_byte
  obtain ⟨hz0, hz1, hz2⟩ := Pk.info_parts hz
  have HI := hid hi
  have H0 := hid hz0
  have H1 := hid hz1
  have H2 := hid hz2
  clear hi hz hz0 hz1 hz2
  go_enter Try.func20, Try.ntmps20
  go_wp2_with (go_at_call 39; ((with_reducible refine (size2_c _).mono ?_); rintro e w' ⟨rfl, rfl⟩))
  go_loopw [0, 5] (fun v i wr => ∃ l : List UInt8, Own B v l W0 wr ∧ ((i = .int .i64 1 ∧ l = l0) ∨ (i = .int .i64 0 ∧ l = l0 ++ [UInt8.ofNat (n / 256)]) ∨ (i = .int .i64 (-1) ∧ l = l0 ++ w2 n))) (fun _ i _ => (intOf i + 1).toNat)
  case atStart => exact ⟨l0, hb, .inl ⟨rfl, rfl⟩⟩
  case round =>
    obtain ⟨l, ho, hrel⟩ := hrel
    have hll : l.length + 1 ≤ 140737488355328 := by
      rcases hrel with ⟨_, rfl⟩ | ⟨_, rfl⟩ | ⟨_, rfl⟩ <;> (try simp only [List.length_append, List.length_cons, List.length_nil, w2_len]) <;> omega
    rcases hrel with ⟨rfl, hq⟩ | ⟨rfl, hq⟩ | ⟨rfl, hq⟩
    · have HQ := hid hq
      clear hq
      go_wp2_with (at_builtin; (refine Lib.wpList_append_byte rfl (.tmp 12) (.tmp 18) _ rfl B 5 i0 Try.underlying24 HI.out H0.out H1.out H2.out _ l.length (Lib.byteCells l) rfl W0 _ _ ho rfl hll ?_); intro v' w' ho')
      go_roundw
      case rel => exact ⟨l ++ [UInt8.ofNat (n / 256)], Own.snoc ho' (byte_is _ _ (by omega)), .inr (.inl ⟨rfl, by rw [HQ.out]⟩)⟩
      case measure => decide
    · have HQ := hid hq
      clear hq
      go_wp2_with (at_builtin; (refine Lib.wpList_append_byte rfl (.tmp 12) (.tmp 18) _ rfl B 5 i0 Try.underlying24 HI.out H0.out H1.out H2.out _ l.length (Lib.byteCells l) rfl W0 _ _ ho rfl hll ?_); intro v' w' ho')
      go_roundw
      case rel => exact ⟨l ++ [UInt8.ofNat n], Own.snoc ho' (byte_is _ _ (by omega)), .inr (.inr ⟨rfl, by rw [HQ.out]; simp [w2]⟩)⟩
      case measure => decide
    · subst hq
      go_wp2_with fail
      go_ret
      exact ⟨_, rfl, ho⟩
end Go.Proofs.Ytnjmmmclelmeiaa.Wr
