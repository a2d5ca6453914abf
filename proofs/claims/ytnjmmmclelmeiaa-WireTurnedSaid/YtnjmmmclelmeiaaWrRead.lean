/- What the readers of layer 7 (wire) return, and what they leave of their memory: taken, get, inputs, lead. -/
import Derived.Test.YtnjmmmclelmeiaaWrBox
import Derived.Test.YtnjmmmclelmeiaaPkRR
import Derived.Handy
namespace Go.Proofs.Ytnjmmmclelmeiaa.Wr
open Go.RowKit Go.Proofs.Ytnjmmmclelmeiaa.Fx Go.Proofs.Ytnjmmmclelmeiaa.Pk

/-- w' is w with new blocks, and with writes to block b alone. -/
structure Only (b : Nat) (w w' : World) : Prop where
  os : w'.os = w.os
  tape : w'.tape = w.tape
  output : w'.output = w.output
  size : w.heap.size ≤ w'.heap.size
  block : ∀ k, k < w.heap.size → k ≠ b → w'.heap[k]? = w.heap[k]?
theorem Only.ofBelow {b : Nat} {w w' : World} (h : Below w.heap.size w w') : Only b w w' := ⟨h.os, h.tape, h.output, h.size, fun k hk _ => h.block k hk⟩
theorem Only.refl (b : Nat) (w : World) : Only b w w := ⟨rfl, rfl, rfl, Nat.le_refl _, fun _ _ _ => rfl⟩
theorem Only.trans {b : Nat} {x y z : World} (h : Only b x y) (k : Only b y z) : Only b x z :=
  ⟨k.os.trans h.os, k.tape.trans h.tape, k.output.trans h.output, Nat.le_trans h.size k.size, fun i hi hn => (k.block i (Nat.lt_of_lt_of_le hi h.size) hn).trans (h.block i hi hn)⟩
theorem Only.setCell (w : World) (b j : Nat) (u : Value) : Only b w (w.setCell ⟨b, j, none⟩ u) :=
  ⟨rfl, rfl, rfl, by simp [World.setCell], fun _ _ hn => Below.heap_setCell _ _ _ _ hn⟩
/-- a block that lay before, written alone, behind a world that was kept. -/
theorem Only.below {n b : Nat} {w w' : World} (h : Only b w w') (hb : n ≤ b) (hn : n ≤ w.heap.size) : Below n w w' :=
  ⟨h.os, h.tape, h.output, h.size, fun k hk => h.block k (by omega) (by omega)⟩

/-- block b is a reader: what is left, whether it failed. -/
def Rdr (w : World) (b : Nat) (S : ByteArray) (f : Bool) : Prop := w.heap[b]? = some (.cells #[.string S, .bool f] 64 (0, 0))
theorem Rdr.below {w w' : World} {b : Nat} {S : ByteArray} {f : Bool} (h : Rdr w b S f) (hb : Below w.heap.size w w') : Rdr w' b S f := by
  unfold Rdr at h ⊢
  rw [hb.block b (Array.getElem?_eq_some_iff.1 h).1]
  exact h
theorem Rdr.cells {w : World} {b : Nat} {S : ByteArray} {f : Bool} (h : Rdr w b S f) : w.cell? ⟨b, 0, none⟩ = some (.string S) ∧ w.cell? ⟨b, 1, none⟩ = some (.bool f) ∧ w.frozen? ⟨b, 0, none⟩ = false ∧ w.frozen? ⟨b, 1, none⟩ = false := by
  have hc := fun j => cell_of_row w b j _ _ _ h
  refine ⟨?_, ?_, frozen_of_row w b 0 _ _ h, frozen_of_row w b 1 _ _ h⟩ <;> (rw [hc]; rfl)
theorem Rdr.set0 {w : World} {b : Nat} {S : ByteArray} {f : Bool} (h : Rdr w b S f) (T : ByteArray) : Rdr (w.setCell ⟨b, 0, none⟩ (.string T)) b T f := by
  unfold Rdr at h ⊢
  rw [heap_setCell_same w b 0 _ _ _ h]
  rfl
theorem Rdr.set1 {w : World} {b : Nat} {S : ByteArray} {f : Bool} (h : Rdr w b S f) (g : Bool) : Rdr (w.setCell ⟨b, 1, none⟩ (.bool g)) b S g := by
  unfold Rdr at h ⊢
  rw [heap_setCell_same w b 1 _ _ _ h]
  rfl

theorem taken_no (n : Int) (b : Nat) (S : ByteArray) (f : Bool) (w : World) (h : Rdr w b S f) :
    Calls Try.prog 58 #[.pointer (some ⟨b, 0, none⟩), .int .i64 n, .bool false] w fun e w' => e = .returned (.tuple #[]) ∧ w' = w.setCell ⟨b, 1, none⟩ (.bool true) := by
  obtain ⟨c0, c1, f0, f1⟩ := h.cells
  go_enter Try.func58, Try.ntmps58
  go_wp2
  go_returns
  exact ⟨rfl, rfl⟩

theorem taken_ok (x : Int) (n b : Nat) (S : ByteArray) (f : Bool) (w : World) (h : Rdr w b S f) (hx : x = (n : Int)) (hn : n ≤ S.size) :
    Calls Try.prog 58 #[.pointer (some ⟨b, 0, none⟩), .int .i64 x, .bool true] w fun e w' => e = .returned (.tuple #[]) ∧ w' = w.setCell ⟨b, 0, none⟩ (.string (S.extract n S.size)) := by
  subst hx
  obtain ⟨c0, c1, f0, f1⟩ := h.cells
  go_enter Try.func58, Try.ntmps58
  go_wp2
  go_returns
  exact ⟨rfl, rfl⟩

/-- one byte more of a word. -/
theorem val_take {l : List UInt8} {k acc n : Nat} (h : val (l.take n) 0 = val ((l.take n).drop k) acc) (hk : k < n) (hl : n ≤ l.length) : val (l.take n) 0 = val ((l.take n).drop (k + 1)) (acc * 256 + (l[k]'(by omega)).toNat) := by
  rw [h, List.drop_eq_getElem_cons (by rw [List.length_take]; omega)]
  simp only [val, List.getElem_take]
theorem val_end {l : List UInt8} {k acc n : Nat} (h : val (l.take n) 0 = val ((l.take n).drop k) acc) (hk : ¬ k < n) : acc = val (l.take n) 0 := by
  rw [h, List.drop_of_length_le (by rw [List.length_take]; omega)]
  rfl
theorem shl8 (acc : Nat) (c : UInt8) (h : acc < 16777216) : bits .or .u32 ((acc : Int) * 256) (c.toNat : Int) = ((acc * 256 + c.toNat : Nat) : Int) := by
  have hc := c.toNat_lt
  rw [u32_or _ _ (by omega) (by omega) (by omega) (by omega)]
  have e1 : ((acc : Int) * 256).toNat = acc * 256 := by omega
  rw [e1, Int.toNat_natCast, nat_join 8 _ _ (by omega) (by omega)]

set_option maxRecDepth 100000 in
set_option maxHeartbeats 1000000 in
theorem get4_c (b : Nat) (S : ByteArray) (f : Bool) (w : World) (h : Rdr w b S f) (hs : S.size ≤ 1073741824) :
    Calls Try.prog 46 #[.pointer (some ⟨b, 0, none⟩)] w fun e w' => e = .returned (.int .u32 (gotN 4 S.data.toList : Int)) ∧
      ∃ T : ByteArray, Hid (T.data.toList = leftN 4 S.data.toList) ∧ T.size ≤ S.size ∧ Rdr w' b T (badN 4 S.data.toList f) ∧ Only b w w' := by
  obtain ⟨c0, c1, f0, f1⟩ := h.cells
  have hsz : S.data.toList.length = S.size := (Lib.size_eq S).symm
  by_cases hl : S.size < 4
  · have e1 : gotN 4 S.data.toList = 0 := by unfold gotN; rw [hsz, if_pos hl]
    have e2 : leftN 4 S.data.toList = S.data.toList := by unfold leftN; rw [hsz, if_pos hl]
    have e3 : badN 4 S.data.toList f = true := by unfold badN; rw [hsz, if_pos hl]
    rw [e1, e2, e3]
    clear e1 e2 e3 hsz
    go_enter Try.func46, Try.ntmps46
    go_wp2_with (go_at_call 38; ((with_reducible refine (size4_c _).mono ?_); rintro e w' ⟨rfl, rfl⟩))
    go_ret
    exact ⟨rfl, S, hid rfl, Nat.le_refl _, h.set1 true, Only.setCell w b 1 _⟩
  · have e1 : gotN 4 S.data.toList = val (S.data.toList.take 4) 0 := by unfold gotN; rw [hsz, if_neg hl]
    have e2 : leftN 4 S.data.toList = S.data.toList.drop 4 := by unfold leftN; rw [hsz, if_neg hl]
    have e3 : badN 4 S.data.toList f = f := by unfold badN; rw [hsz, if_neg hl]
    rw [e1, e2, e3]
    have HSZ := hid hsz
    clear e1 e2 e3 hsz
    go_enter Try.func46, Try.ntmps46
    go_wp2_with (go_at_call 38; ((with_reducible refine (size4_c _).mono ?_); rintro e w' ⟨rfl, rfl⟩))
    go_loop [4, 18] (fun x i => ∃ k acc : Nat, k ≤ 4 ∧ i = .int .i64 k ∧ x = .int .u32 acc ∧ Hid (acc < 256 ^ k) ∧ Hid (val (S.data.toList.take 4) 0 = val ((S.data.toList.take 4).drop k) acc)) (fun _ i => 4 - (intOf i).toNat)
    case atStart => exact ⟨0, 0, by omega, rfl, rfl, hid (by decide), hid rfl⟩
    case round =>
      obtain ⟨k, acc, hk, rfl, rfl, hb, hv⟩ := hrel
      by_cases hlt : k < 4
      · have hks : k < S.size := by omega
        have hacc : acc < 16777216 := by
          have h1 := hb.out
          have h2 : 256 ^ k ≤ 256 ^ 3 := Nat.pow_le_pow_right (by decide) (by omega)
          have h3 : (256 : Nat) ^ 3 = 16777216 := by decide
          omega
        have hn := hid (val_take hv.out hlt (by rw [HSZ.out]; omega))
        have hc := S[k].toNat_lt
        have hor := shl8 acc S[k] hacc
        have hbn : Hid (acc * 256 + S[k].toNat < 256 ^ (k + 1)) := by
          have h1 := hb.out
          show _ < _
          rw [Nat.pow_succ]; omega
        clear hv hb
        go_wp2_with fail
        go_round
        case rel => exact ⟨k + 1, _, by omega, by go_num, rfl, hbn, hn⟩
        case measure => simp [intOf]; omega
      · have hn := hid (val_end hv.out hlt)
        clear hv hb
        have h4 := hid (show (4 : Int) = ((4 : Nat) : Int) from rfl)
        go_wp2_with (go_at_call 58; ((with_reducible refine (taken_ok _ 4 b S f w h h4.out (by omega)).mono ?_); rintro e w' ⟨rfl, rfl⟩))
        go_ret
        exact ⟨ret_int (by rw [hn.out]), _, hid (tail_list S 4), by rw [ByteArray.size_extract]; omega, h.set0 _, Only.setCell w b 0 _⟩

theorem shl8w (acc : Nat) (c : UInt8) (h : acc < 256) : bits .or .u16 ((acc : Int) * 256) (c.toNat : Int) = ((acc * 256 + c.toNat : Nat) : Int) := by
  have hc := c.toNat_lt
  rw [u16_or _ _ (by omega) (by omega) (by omega) (by omega)]
  have e1 : ((acc : Int) * 256).toNat = acc * 256 := by omega
  rw [e1, Int.toNat_natCast, nat_join 8 _ _ (by omega) (by omega)]

set_option maxRecDepth 100000 in
set_option maxHeartbeats 1000000 in
theorem get2_c (b : Nat) (S : ByteArray) (f : Bool) (w : World) (h : Rdr w b S f) (hs : S.size ≤ 1073741824) :
    Calls Try.prog 47 #[.pointer (some ⟨b, 0, none⟩)] w fun e w' => e = .returned (.int .u16 (gotN 2 S.data.toList : Int)) ∧
      ∃ T : ByteArray, Hid (T.data.toList = leftN 2 S.data.toList) ∧ T.size ≤ S.size ∧ Rdr w' b T (badN 2 S.data.toList f) ∧ Only b w w' := by
  obtain ⟨c0, c1, f0, f1⟩ := h.cells
  have hsz : S.data.toList.length = S.size := (Lib.size_eq S).symm
  by_cases hl : S.size < 2
  · have e1 : gotN 2 S.data.toList = 0 := by unfold gotN; rw [hsz, if_pos hl]
    have e2 : leftN 2 S.data.toList = S.data.toList := by unfold leftN; rw [hsz, if_pos hl]
    have e3 : badN 2 S.data.toList f = true := by unfold badN; rw [hsz, if_pos hl]
    rw [e1, e2, e3]
    clear e1 e2 e3 hsz
    go_enter Try.func47, Try.ntmps47
    go_wp2_with (go_at_call 39; ((with_reducible refine (size2_c _).mono ?_); rintro e w' ⟨rfl, rfl⟩))
    go_ret
    exact ⟨rfl, S, hid rfl, Nat.le_refl _, h.set1 true, Only.setCell w b 1 _⟩
  · have e1 : gotN 2 S.data.toList = val (S.data.toList.take 2) 0 := by unfold gotN; rw [hsz, if_neg hl]
    have e2 : leftN 2 S.data.toList = S.data.toList.drop 2 := by unfold leftN; rw [hsz, if_neg hl]
    have e3 : badN 2 S.data.toList f = f := by unfold badN; rw [hsz, if_neg hl]
    rw [e1, e2, e3]
    have HSZ := hid hsz
    clear e1 e2 e3 hsz
    go_enter Try.func47, Try.ntmps47
    go_wp2_with (go_at_call 39; ((with_reducible refine (size2_c _).mono ?_); rintro e w' ⟨rfl, rfl⟩))
    go_loop [4, 18] (fun x i => ∃ k acc : Nat, k ≤ 2 ∧ i = .int .i64 k ∧ x = .int .u16 acc ∧ Hid (acc < 256 ^ k) ∧ Hid (val (S.data.toList.take 2) 0 = val ((S.data.toList.take 2).drop k) acc)) (fun _ i => 2 - (intOf i).toNat)
    case atStart => exact ⟨0, 0, by omega, rfl, rfl, hid (by decide), hid rfl⟩
    case round =>
      obtain ⟨k, acc, hk, rfl, rfl, hb, hv⟩ := hrel
      by_cases hlt : k < 2
      · have hks : k < S.size := by omega
        have hacc : acc < 256 := by
          have h1 := hb.out
          have h2 : 256 ^ k ≤ 256 ^ 1 := Nat.pow_le_pow_right (by decide) (by omega)
          have h3 : (256 : Nat) ^ 3 = 16777216 := by decide
          omega
        have hn := hid (val_take hv.out hlt (by rw [HSZ.out]; omega))
        have hc := S[k].toNat_lt
        have hor := shl8w acc S[k] hacc
        have hbn : Hid (acc * 256 + S[k].toNat < 256 ^ (k + 1)) := by
          have h1 := hb.out
          show _ < _
          rw [Nat.pow_succ]; omega
        clear hv hb
        go_wp2_with fail
        go_round
        case rel => exact ⟨k + 1, _, by omega, by go_num, rfl, hbn, hn⟩
        case measure => simp [intOf]; omega
      · have hn := hid (val_end hv.out hlt)
        clear hv hb
        have h4 := hid (show (2 : Int) = ((2 : Nat) : Int) from rfl)
        go_wp2_with (go_at_call 58; ((with_reducible refine (taken_ok _ 2 b S f w h h4.out (by omega)).mono ?_); rintro e w' ⟨rfl, rfl⟩))
        go_ret
        exact ⟨ret_int (by rw [hn.out]), _, hid (tail_list S 2), by rw [ByteArray.size_extract]; omega, h.set0 _, Only.setCell w b 0 _⟩

/-- a slice that is read, behind a write to a reader. -/
theorem Rdr.rd {w : World} {b : Nat} {S : ByteArray} {f : Bool} {v : Value} {l : List UInt8} (h : Rdr w b S f) (hv : Rd w v l) {w' : World} (ho : Only b w w') : Rd w' v l := by
  obtain ⟨ao, L, cap, e, h1, h2, h3, ht⟩ := hv
  refine ⟨ao, L, cap, e, h1, h2, h3, fun hl => ?_⟩
  obtain ⟨g, o, e2, hlt, hc⟩ := ht hl
  have hne : g ≠ b := by
    rintro rfl
    have h0 := hc 0 hl
    rw [Nat.add_zero, cell_of_row w g o _ _ _ h] at h0
    match o, h0 with
    | 0, h0 => simp at h0
    | 1, h0 => simp at h0
    | (o + 2), h0 => simp at h0
  have hblk := ho.block g hlt hne
  exact ⟨g, o, e2, Nat.lt_of_lt_of_le hlt ho.size, fun j hj => (World.cell?_of_block hblk).trans (hc j hj)⟩

theorem eq_nat (c : Nat) (h : c ≠ 0) : ((c : Int) == 0) = false := by simp; omega

/-- what the inputs' reader, and the lead's, leave. -/
theorem inputs_c (b : Nat) (S : ByteArray) (f : Bool) (w : World) (h : Rdr w b S f) (hs : S.size ≤ 1073741824) :
    Calls Try.prog 48 #[.pointer (some ⟨b, 0, none⟩)] w fun e w' => ∃ ao L cap, e = .returned (.slice ao L cap) ∧ Rd w' (.slice ao L cap) (readR S.data.toList).1 ∧
      ∃ T : ByteArray, Hid (T.data.toList = leftR S.data.toList) ∧ T.size ≤ S.size ∧ Rdr w' b T (badR S.data.toList f) ∧ Only b w w' := by
  obtain ⟨c0, c1, f0, f1⟩ := h.cells
  have HR := hid (readRun_c S w hs)
  have hbk := fun e => (readR_back S.data.toList e).2.1
  have hsz : S.data.toList.length = S.size := (Lib.size_eq S).symm
  rw [hsz] at hbk
  unfold leftR badR
  generalize readR S.data.toList = r at HR hbk
  obtain ⟨l, n, c⟩ := r
  unfold Pk.Told at HR
  dsimp only at hbk HR ⊢
  by_cases hc : c = 0
  · subst hc
    have hn := hbk rfl
    rw [if_pos rfl, if_pos rfl]
    clear hbk hsz
    go_enter Try.func48, Try.ntmps48
    go_wp2_with (first
      | (go_at_call 59; ((with_reducible refine HR.out.mono ?_); rintro e w' ⟨v, rfl, hv, hb⟩; have hR2 := hid (h.below hb); have hv2 := hid hv; have hb2 := hid hb; obtain ⟨ao, L, cap, rfl, _, _, _, _⟩ := hv; clear hb))
      | (go_at_call 58; ((with_reducible refine (taken_ok _ n b S f _ hR2.out rfl hn).mono ?_); rintro e w2 ⟨rfl, rfl⟩)))
    go_ret
    exact ⟨ao, L, cap, rfl, hR2.out.rd hv2.out (Only.setCell _ b 0 _), _, hid (tail_list S n), by rw [ByteArray.size_extract]; omega, hR2.out.set0 _, (Only.ofBelow hb2.out).trans (Only.setCell _ b 0 _)⟩
  · have hc' := eq_nat c hc
    rw [if_neg hc, if_neg hc]
    clear hbk hsz hc
    go_enter Try.func48, Try.ntmps48
    go_wp2_with (first
      | (go_at_call 59; ((with_reducible refine HR.out.mono ?_); rintro e w' ⟨v, rfl, hv, hb⟩; have hR2 := hid (h.below hb); have hv2 := hid hv; have hb2 := hid hb; obtain ⟨ao, L, cap, rfl, _, _, _, _⟩ := hv; clear hb))
      | (go_at_call 58; ((with_reducible refine (taken_no _ b S f _ hR2.out).mono ?_); rintro e w2 ⟨rfl, rfl⟩)))
    go_ret
    exact ⟨ao, L, cap, rfl, hR2.out.rd hv2.out (Only.setCell _ b 1 _), S, hid rfl, Nat.le_refl _, hR2.out.set1 true, (Only.ofBelow hb2.out).trans (Only.setCell _ b 1 _)⟩

theorem lead_c (b : Nat) (S : ByteArray) (f : Bool) (w : World) (h : Rdr w b S f) (hs : S.size ≤ 1073741824) :
    Calls Try.prog 49 #[.pointer (some ⟨b, 0, none⟩)] w fun e w' => e = .returned (.int .i64 (unsN (rdN S.data.toList).1)) ∧
      ∃ T : ByteArray, Hid (T.data.toList = leftS S.data.toList) ∧ T.size ≤ S.size ∧ Rdr w' b T (badS S.data.toList f) ∧ Only b w w' := by
  obtain ⟨c0, c1, f0, f1⟩ := h.cells
  have HR := hid (readS_c S w (by unfold maxLen; omega))
  have hbk := (rd_bd S.data.toList).2.1
  have hub := uns_bd _ (rd_bd S.data.toList).1
  have hsz : S.data.toList.length = S.size := (Lib.size_eq S).symm
  rw [hsz] at hbk
  unfold leftS badS
  generalize rdN S.data.toList = r at HR hbk hub
  obtain ⟨x, n, c⟩ := r
  rw [show rsV (x, n, c) = .tuple #[.int .i64 (unsN x), .int .i64 (n : Int), .int .i64 (c : Int)] from rfl] at HR
  dsimp only at hbk hub ⊢
  generalize unsN x = y at HR hub
  by_cases hc : c = 0
  · subst hc
    rw [if_pos rfl, if_pos rfl]
    clear hsz
    go_enter Try.func49, Try.ntmps49
    go_wp2_with (first
      | (go_at_call 60; ((with_reducible refine HR.out.mono ?_); rintro e w' ⟨rfl, rfl⟩))
      | (go_at_call 58; ((with_reducible refine (taken_ok _ n b S f _ h rfl hbk).mono ?_); rintro e w2 ⟨rfl, rfl⟩)))
    go_ret
    exact ⟨rfl, _, hid (tail_list S n), by rw [ByteArray.size_extract]; omega, h.set0 _, Only.setCell _ b 0 _⟩
  · have hc' := eq_nat c hc
    rw [if_neg hc, if_neg hc]
    clear hsz hc
    go_enter Try.func49, Try.ntmps49
    go_wp2_with (first
      | (go_at_call 60; ((with_reducible refine HR.out.mono ?_); rintro e w' ⟨rfl, rfl⟩))
      | (go_at_call 58; ((with_reducible refine (taken_no _ b S f _ h).mono ?_); rintro e w2 ⟨rfl, rfl⟩)))
    go_ret
    exact ⟨rfl, S, hid rfl, Nat.le_refl _, h.set1 true, Only.setCell _ b 1 _⟩

/-- the same, in letters. -/
theorem get4_l (b : Nat) (S : ByteArray) (f : Bool) (w : World) (h : Rdr w b S f) (hs : S.size ≤ 1073741824) :
    Calls Try.prog 46 #[.pointer (some ⟨b, 0, none⟩)] w fun e w' => ∃ (x : Nat) (T : ByteArray) (g : Bool), e = .returned (.int .u32 (x : Int)) ∧ Hid (x = gotN 4 S.data.toList ∧ T.data.toList = leftN 4 S.data.toList ∧ g = badN 4 S.data.toList f ∧ T.size ≤ 1073741824) ∧ Rdr w' b T g ∧ Only b w w' :=
  (get4_c b S f w h hs).mono fun _ _ ⟨he, T, h1, h2, h3, h4⟩ => ⟨_, T, _, he, ⟨rfl, h1.out, rfl, Nat.le_trans h2 hs⟩, h3, h4⟩

theorem get2_l (b : Nat) (S : ByteArray) (f : Bool) (w : World) (h : Rdr w b S f) (hs : S.size ≤ 1073741824) :
    Calls Try.prog 47 #[.pointer (some ⟨b, 0, none⟩)] w fun e w' => ∃ (x : Nat) (T : ByteArray) (g : Bool), e = .returned (.int .u16 (x : Int)) ∧ Hid (x = gotN 2 S.data.toList ∧ T.data.toList = leftN 2 S.data.toList ∧ g = badN 2 S.data.toList f ∧ T.size ≤ 1073741824) ∧ Rdr w' b T g ∧ Only b w w' :=
  (get2_c b S f w h hs).mono fun _ _ ⟨he, T, h1, h2, h3, h4⟩ => ⟨_, T, _, he, ⟨rfl, h1.out, rfl, Nat.le_trans h2 hs⟩, h3, h4⟩

theorem inputs_l (b : Nat) (S : ByteArray) (f : Bool) (w : World) (h : Rdr w b S f) (hs : S.size ≤ 1073741824) :
    Calls Try.prog 48 #[.pointer (some ⟨b, 0, none⟩)] w fun e w' => ∃ (ao : Option Addr) (L cap : Nat) (T : ByteArray) (g : Bool), e = .returned (.slice ao L cap) ∧ Hid (T.data.toList = leftR S.data.toList ∧ g = badR S.data.toList f ∧ Rd w' (.slice ao L cap) (readR S.data.toList).1) ∧ Rdr w' b T g ∧ Only b w w' :=
  (inputs_c b S f w h hs).mono fun _ _ ⟨ao, L, cap, he, hv, T, h1, _, h3, h4⟩ => ⟨ao, L, cap, T, _, he, ⟨h1.out, rfl, hv⟩, h3, h4⟩

theorem lead_l (b : Nat) (S : ByteArray) (f : Bool) (w : World) (h : Rdr w b S f) (hs : S.size ≤ 1073741824) :
    Calls Try.prog 49 #[.pointer (some ⟨b, 0, none⟩)] w fun e w' => ∃ (x : Int) (T : ByteArray) (g : Bool), e = .returned (.int .i64 x) ∧ Hid (x = unsN (rdN S.data.toList).1 ∧ T.data.toList = leftS S.data.toList ∧ g = badS S.data.toList f) ∧ Rdr w' b T g ∧ Only b w w' :=
  (lead_c b S f w h hs).mono fun _ _ ⟨he, T, h1, _, h3, h4⟩ => ⟨_, T, _, he, ⟨rfl, h1.out, rfl⟩, h3, h4⟩

end Go.Proofs.Ytnjmmmclelmeiaa.Wr
