/- What the document's Word and Number of layer 7 (wire) return. -/
import Derived.Test.YtnjmmmclelmeiaaWrBox
import Derived.Laws.MakeOwn
namespace Go.Proofs.Ytnjmmmclelmeiaa.Wr
open Go.RowKit Go.Proofs.Ytnjmmmclelmeiaa.Fx Go.Proofs.Ytnjmmmclelmeiaa.Pk

/-- bytes in a block, as a string. -/
theorem conv_row (W : World) (vs : Array Value) (l : List UInt8) (n : Nat) (hn : n = l.length) (hv : vs.toList = Lib.byteCells l) :
    (convert 24 9 (.slice (some ⟨W.heap.size, 0, none⟩) n n)).run Try.prog (W.alloc (.cells vs 5)) = .ok (.string ⟨l.toArray⟩) (W.alloc (.cells vs 5)) := by
  subst hn
  exact run_convert_bytes_back (P := Try.prog) (W.alloc (.cells vs 5)) 24 9 5 ⟨W.heap.size, 0, none⟩ l.length l Try.underlying24 Try.underlying5 Try.underlying9 (fun j hj => by
    have ha : (⟨W.heap.size, 0, none⟩ : Addr).add j = ⟨W.heap.size, j, none⟩ := by unfold Addr.add; split <;> simp_all
    rw [ha, World.cell?_alloc_mark, ← Array.getElem?_toList, hv]
    simp [Lib.byteCells, hj])
theorem int_eq {k : IntKind} {a b : Int} (h : a = b) : Value.int k a = .int k b := by rw [h]
theorem alc4 {w : World} {T : TypeId} {a0 a1 a2 a3 b0 b1 b2 b3 : Int} (h0 : a0 = b0) (h1 : a1 = b1) (h2 : a2 = b2) (h3 : a3 = b3) : w.alloc (.cells #[.int .u8 a0, .int .u8 a1, .int .u8 a2, .int .u8 a3] T) = w.alloc (.cells #[.int .u8 b0, .int .u8 b1, .int .u8 b2, .int .u8 b3] T) := by rw [h0, h1, h2, h3]
theorem alc2 {w : World} {T : TypeId} {a0 a1 b0 b1 : Int} (h0 : a0 = b0) (h1 : a1 = b1) : w.alloc (.cells #[.int .u8 a0, .int .u8 a1] T) = w.alloc (.cells #[.int .u8 b0, .int .u8 b1] T) := by rw [h0, h1]
theorem made4 (v : Value) : madeCells #[v] 4 = #[v, v, v, v] := by
  apply Array.ext
  · rw [size_madeCells]; rfl
  · intro i h1 h2
    rw [size_madeCells] at h1
    have : i = 0 ∨ i = 1 ∨ i = 2 ∨ i = 3 := by omega
    rcases this with rfl | rfl | rfl | rfl <;> simp [madeCells]
theorem made2 (v : Value) : madeCells #[v] 2 = #[v, v] := by
  apply Array.ext
  · rw [size_madeCells]; rfl
  · intro i h1 h2
    rw [size_madeCells] at h1
    have : i = 0 ∨ i = 1 := by omega
    rcases this with rfl | rfl <;> simp [madeCells]
theorem make4 (W : World) : (Instr.makeSlice 24 (.int .i64 4) (.int .i64 4)).run Try.prog W = .ok (.slice (some ⟨W.heap.size, 0, none⟩) 4 4) (W.alloc (.cells #[.int .u8 0, .int .u8 0, .int .u8 0, .int .u8 0] 5)) := by
  obtain ⟨i0, hi, hz⟩ := Option.map_eq_some_iff.1 Pk.info_byte
  obtain ⟨hz0, hz1, hz2⟩ := Pk.info_parts hz
  have h := run_make (P := Try.prog) W 24 5 i0 (.int .u8 0) Try.underlying24 hi hz0 .i64 .i64 4 4 (by omega) (by omega) (by rw [hz2]; omega) (by omega)
  rw [hz1] at h
  have e : madeCells (Value.int .u8 0).cells ((4 : Int).toNat * 1) = #[.int .u8 0, .int .u8 0, .int .u8 0, .int .u8 0] := made4 _
  rw [e] at h
  exact h
theorem make2 (W : World) : (Instr.makeSlice 24 (.int .i64 2) (.int .i64 2)).run Try.prog W = .ok (.slice (some ⟨W.heap.size, 0, none⟩) 2 2) (W.alloc (.cells #[.int .u8 0, .int .u8 0] 5)) := by
  obtain ⟨i0, hi, hz⟩ := Option.map_eq_some_iff.1 Pk.info_byte
  obtain ⟨hz0, hz1, hz2⟩ := Pk.info_parts hz
  have h := run_make (P := Try.prog) W 24 5 i0 (.int .u8 0) Try.underlying24 hi hz0 .i64 .i64 2 2 (by omega) (by omega) (by rw [hz2]; omega) (by omega)
  rw [hz1] at h
  have e : madeCells (Value.int .u8 0).cells ((2 : Int).toNat * 1) = #[.int .u8 0, .int .u8 0] := made2 _
  rw [e] at h
  exact h

set_option maxRecDepth 100000 in
set_option maxHeartbeats 2000000 in
theorem word2_c (n : Nat) (w : World) (hn : n < 65536) :
    Calls Try.prog 31 #[.int .u64 (n : Int), .int .i64 2] w fun e w' => e = .returned (.string ⟨(w2 n).toArray⟩) ∧ Below w.heap.size w w' := by
  have hmk := make2 w
  have hcv := conv_row w #[.int .u8 ((n : Int) / 256 % 256), .int .u8 ((n : Int) % 256)] (w2 n) 2 rfl (by
    show _ = [Value.int .u8 ((UInt8.ofNat (n / 256)).toNat : Int), Value.int .u8 ((UInt8.ofNat n).toNat : Int)]
    rw [byte_is (n / 256) ((n : Int) / 256 % 256) (by omega), byte_is n ((n : Int) % 256) (by omega)])
  generalize (⟨(w2 n).toArray⟩ : ByteArray) = R at hcv
  go_enter Try.func31, Try.ntmps31
  go_wp2
  go_loopw [0, 6] (fun x i wr => (i = .int .i64 (1) ∧ x = .int .u64 ((n : Int)) ∧ wr = w.alloc (.cells #[.int .u8 0, .int .u8 0] 5)) ∨ (i = .int .i64 (0) ∧ x = .int .u64 ((n : Int) / 256) ∧ wr = w.alloc (.cells #[.int .u8 0, .int .u8 ((n : Int) % 256)] 5)) ∨ (i = .int .i64 (-1) ∧ x = .int .u64 ((n : Int) / 65536) ∧ wr = w.alloc (.cells #[.int .u8 ((n : Int) / 256 % 256), .int .u8 ((n : Int) % 256)] 5))) (fun _ i _ => (intOf i + 1).toNat)
  case atStart => exact .inl ⟨rfl, rfl, rfl⟩
  case round =>
    rcases hrel with ⟨rfl, rfl, rfl⟩ | ⟨rfl, rfl, rfl⟩ | ⟨rfl, rfl, rfl⟩
    · go_wp2_with fail
      go_roundw
      case rel => exact (.inr (.inl ⟨rfl, int_eq (by omega), by first | exact trivial | exact alc2 (by omega) (by omega)⟩))
      case measure => decide
    · go_wp2_with fail
      go_roundw
      case rel => exact (.inr (.inr ⟨rfl, int_eq (by omega), by first | exact trivial | exact alc2 (by omega) (by omega)⟩))
      case measure => decide
    · go_wp2_with fail
      go_ret
      exact ⟨rfl, box_below w _⟩

set_option maxRecDepth 100000 in
set_option maxHeartbeats 2000000 in
theorem word4_c (n : Nat) (w : World) (hn : n < 4294967296) :
    Calls Try.prog 31 #[.int .u64 (n : Int), .int .i64 4] w fun e w' => e = .returned (.string ⟨(w4 n).toArray⟩) ∧ Below w.heap.size w w' := by
  have hmk := make4 w
  have hcv := conv_row w #[.int .u8 ((n : Int) / 16777216 % 256), .int .u8 ((n : Int) / 65536 % 256), .int .u8 ((n : Int) / 256 % 256), .int .u8 ((n : Int) % 256)] (w4 n) 4 rfl (by
    show _ = [Value.int .u8 ((UInt8.ofNat (n / 16777216)).toNat : Int), Value.int .u8 ((UInt8.ofNat (n / 65536)).toNat : Int), Value.int .u8 ((UInt8.ofNat (n / 256)).toNat : Int), Value.int .u8 ((UInt8.ofNat n).toNat : Int)]
    rw [byte_is (n / 16777216) ((n : Int) / 16777216 % 256) (by omega), byte_is (n / 65536) ((n : Int) / 65536 % 256) (by omega), byte_is (n / 256) ((n : Int) / 256 % 256) (by omega), byte_is n ((n : Int) % 256) (by omega)])
  generalize (⟨(w4 n).toArray⟩ : ByteArray) = R at hcv
  go_enter Try.func31, Try.ntmps31
  go_wp2
  go_loopw [0, 6] (fun x i wr => (i = .int .i64 (3) ∧ x = .int .u64 ((n : Int)) ∧ wr = w.alloc (.cells #[.int .u8 0, .int .u8 0, .int .u8 0, .int .u8 0] 5)) ∨ (i = .int .i64 (2) ∧ x = .int .u64 ((n : Int) / 256) ∧ wr = w.alloc (.cells #[.int .u8 0, .int .u8 0, .int .u8 0, .int .u8 ((n : Int) % 256)] 5)) ∨ (i = .int .i64 (1) ∧ x = .int .u64 ((n : Int) / 65536) ∧ wr = w.alloc (.cells #[.int .u8 0, .int .u8 0, .int .u8 ((n : Int) / 256 % 256), .int .u8 ((n : Int) % 256)] 5)) ∨ (i = .int .i64 (0) ∧ x = .int .u64 ((n : Int) / 16777216) ∧ wr = w.alloc (.cells #[.int .u8 0, .int .u8 ((n : Int) / 65536 % 256), .int .u8 ((n : Int) / 256 % 256), .int .u8 ((n : Int) % 256)] 5)) ∨ (i = .int .i64 (-1) ∧ x = .int .u64 ((n : Int) / 4294967296) ∧ wr = w.alloc (.cells #[.int .u8 ((n : Int) / 16777216 % 256), .int .u8 ((n : Int) / 65536 % 256), .int .u8 ((n : Int) / 256 % 256), .int .u8 ((n : Int) % 256)] 5))) (fun _ i _ => (intOf i + 1).toNat)
  case atStart => exact .inl ⟨rfl, rfl, rfl⟩
  case round =>
    rcases hrel with ⟨rfl, rfl, rfl⟩ | ⟨rfl, rfl, rfl⟩ | ⟨rfl, rfl, rfl⟩ | ⟨rfl, rfl, rfl⟩ | ⟨rfl, rfl, rfl⟩
    · go_wp2_with fail
      go_roundw
      case rel => exact (.inr (.inl ⟨rfl, int_eq (by omega), by first | exact trivial | exact alc4 (by omega) (by omega) (by omega) (by omega)⟩))
      case measure => decide
    · go_wp2_with fail
      go_roundw
      case rel => exact (.inr (.inr (.inl ⟨rfl, int_eq (by omega), by first | exact trivial | exact alc4 (by omega) (by omega) (by omega) (by omega)⟩)))
      case measure => decide
    · go_wp2_with fail
      go_roundw
      case rel => exact (.inr (.inr (.inr (.inl ⟨rfl, int_eq (by omega), by first | exact trivial | exact alc4 (by omega) (by omega) (by omega) (by omega)⟩))))
      case measure => decide
    · go_wp2_with fail
      go_roundw
      case rel => exact (.inr (.inr (.inr (.inr ⟨rfl, int_eq (by omega), by first | exact trivial | exact alc4 (by omega) (by omega) (by omega) (by omega)⟩))))
      case measure => decide
    · go_wp2_with fail
      go_ret
      exact ⟨rfl, box_below w _⟩

theorem val_next (l : List UInt8) (k acc : Nat) (hk : k < l.length) : val (l.drop k) acc = val (l.drop (k + 1)) (acc * 256 + l[k].toNat) := by
  rw [List.drop_eq_getElem_cons hk]
  rfl

set_option maxRecDepth 100000 in
set_option maxHeartbeats 1000000 in
theorem number_c (s : ByteArray) (w : World) (hs : s.size ≤ 4) :
    Calls Try.prog 51 #[.string s] w fun e w' => e = .returned (.int .u64 (val s.data.toList 0 : Int)) ∧ w = w' := by
  have hsz : s.data.toList.length = s.size := (Lib.size_eq s).symm
  have HSZ := hid hsz
  clear hsz
  go_enter Try.func51, Try.ntmps51
  go_wp2
  go_loop [3, 4] (fun x i => ∃ k acc : Nat, k ≤ s.size ∧ i = .int .i64 k ∧ x = .int .u64 acc ∧ Hid (acc < 256 ^ k) ∧ Hid (val s.data.toList 0 = val (s.data.toList.drop k) acc)) (fun _ i => s.size - (intOf i).toNat)
  case atStart => exact ⟨0, 0, Nat.zero_le _, rfl, rfl, hid (by decide), hid rfl⟩
  case round =>
    obtain ⟨k, acc, hk, rfl, rfl, hb, hv⟩ := hrel
    by_cases hlt : k < s.size
    · have hacc : acc < 4294967296 := by
        have h1 := hb.out
        have h2 : 256 ^ k ≤ 256 ^ 4 := Nat.pow_le_pow_right (by decide) (by omega)
        have h3 : (256 : Nat) ^ 4 = 4294967296 := by decide
        omega
      have hn := hid (hv.out.trans (val_next s.data.toList k acc (by rw [HSZ.out]; exact hlt)))
      have hc := s[k].toNat_lt
      have hbn : Hid (acc * 256 + s[k].toNat < 256 ^ (k + 1)) := by
        have h1 := hb.out
        show _ < _
        rw [Nat.pow_succ]; omega
      clear hv hb
      go_wp2_with fail
      go_round
      case rel => exact ⟨k + 1, _, by omega, by go_num, rfl, hbn, hn⟩
      case measure => simp [intOf]; omega
    · have hn : val s.data.toList 0 = acc := by
        rw [hv.out, List.drop_of_length_le (by rw [HSZ.out]; omega)]
        rfl
      have HN := hid hn
      clear hv hb hn
      go_wp2_with fail
      go_ret
      exact ⟨ret_int (by rw [HN.out]), rfl⟩

end Go.Proofs.Ytnjmmmclelmeiaa.Wr
