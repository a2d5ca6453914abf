/- The statement WireTurned of layer 7 (wire), as a walk: the law, called with any datagram, any place and any byte, returns true and leaves the old memory as it was. -/
import Derived.Test.YtnjmmmclelmeiaaWrLSame
import Derived.Test.YtnjmmmclelmeiaaSmTurned
namespace Go.Proofs.Ytnjmmmclelmeiaa.Wr
open Go.RowKit Go.Proofs.Ytnjmmmclelmeiaa.Fx Go.Proofs.Ytnjmmmclelmeiaa.Pk

set_option maxHeartbeats 2000000 in
theorem turned_w (m : Dg) (ao : Option Addr) (L cap : Nat) (at' by' : Int) (w : World) (hr : Rd w (.slice ao L cap) m.inputs) (hi : InD m) (hb : 0 ≤ by' ∧ by' ≤ 255) :
    Calls Try.prog 5 #[.agg (cellsD m (.slice ao L cap)), .int .i64 at', .int .u8 by'] w fun e w' => e = .returned (.bool true) ∧ Below w.heap.size w w' := by
  have hA0 := hid (St.new w m ao L cap)
  have HA := fun W (h : St w w.heap.size m ao L cap W) => hid (h.holds hr hi)
  by_cases hR : RightD m
  · by_cases h2 : by' = 0
    · subst h2
      clear hr hi
      go_enter Try.func5, Try.ntmps5
      go_wp2_with (first
        | (go_at_call 7; ((with_reducible refine (awake_c _).mono ?_); rintro e y1 ⟨rfl, hy1⟩; have hA1 := hid (hA0.out.grow hy1); obtain ⟨c0, c1, c2, c3, c4, c5, c6⟩ := hA1.out.box.cells; clear hy1))
        | (go_at_call 8; (refine (pack_ok _ m _ (HA _ hA1.out).out hR).mono ?_; rintro e y2 ⟨rfl, hy2⟩)))
      go_ret
      exact ⟨rfl, bt hA1.out.below hy2⟩
    · have hb2 : (by' == 0) = false := by simpa using h2
      obtain ⟨u, hu⟩ : ∃ u : ByteArray, u = ⟨(msgL m).toArray⟩ := ⟨_, rfl⟩
      have hus : u.size ≤ 135 := by rw [hu, arr_size]; exact msg_len m hR
      have HPk := hid (fun W (h : St w w.heap.size m ao L cap W) => pack_l (.agg (cellsD m (.slice ao L cap))) m W (Sm.sealS u) (by rw [hu]) (HA W h).out hR)
      clear hr hi HA hu
      have hz := Sm.seal_size u
      have hcv := fun W : World => run_bytes_of_string (P := Try.prog) W 9 24 5 (Sm.sealS u) Try.underlying9 Try.underlying24 Try.underlying5
      rw [hz] at hcv
      have hL := Sm.seal_list u
      have hn : (u.data.toList ++ Sm.fourL (Sm.ofI u.data.toList)).length = u.size + 4 := by rw [List.length_append, Sm.four_len, ← Lib.size_eq]
      obtain ⟨k, hk, e⟩ := Sm.place_of at' (u.size + 4) (by omega) (by omega)
      have hk : k < u.size + 4 := by omega
      have hkl : k < (u.data.toList ++ Sm.fourL (Sm.ofI u.data.toList)).length := by omega
      have E := hid e
      have hx := Sm.xor_byte (u.data.toList ++ Sm.fourL (Sm.ofI u.data.toList))[k] by' hb
      have hno := Sm.turned_no u.data.toList k (UInt8.ofNat ((u.data.toList ++ Sm.fourL (Sm.ofI u.data.toList))[k].toNat ^^^ by'.toNat)) (by rw [← Lib.size_eq]; omega) (by
        rw [List.getElem?_eq_getElem hkl]
        intro x
        exact Sm.xor_ne _ by' hb h2 (Option.some.inj x).symm)
      have hl2 : ((u.data.toList ++ Sm.fourL (Sm.ofI u.data.toList)).set k (UInt8.ofNat ((u.data.toList ++ Sm.fourL (Sm.ofI u.data.toList))[k].toNat ^^^ by'.toNat))).length = u.size + 4 := by rw [List.length_set]; exact hn
      have hset : ∀ W B, Sm.RowB W B (u.data.toList ++ Sm.fourL (Sm.ofI u.data.toList)) → Sm.RowB (W.setCell ⟨B, k, none⟩ (.int .u8 ((UInt8.ofNat ((u.data.toList ++ Sm.fourL (Sm.ofI u.data.toList))[k].toNat ^^^ by'.toNat)).toNat : Int))) B ((u.data.toList ++ Sm.fourL (Sm.ofI u.data.toList)).set k (UInt8.ofNat ((u.data.toList ++ Sm.fourL (Sm.ofI u.data.toList))[k].toNat ^^^ by'.toNat))) := fun W B hr => hr.set k _ hkl
      have hat : ∀ W B, Sm.RowB W B (u.data.toList ++ Sm.fourL (Sm.ofI u.data.toList)) → W.cell? ⟨B, k, none⟩ = some (.int .u8 ((u.data.toList ++ Sm.fourL (Sm.ofI u.data.toList))[k].toNat : Int)) ∧ W.frozen? ⟨B, k, none⟩ = false := fun W B hr => hr k hkl
      generalize UInt8.ofNat ((u.data.toList ++ Sm.fourL (Sm.ofI u.data.toList))[k].toNat ^^^ by'.toNat) = c at hx hno hl2 hset
      generalize (u.data.toList ++ Sm.fourL (Sm.ofI u.data.toList))[k] = x at hx hat
      generalize hT : (u.data.toList ++ Sm.fourL (Sm.ofI u.data.toList)).set k c = T at hno hl2 hset
      have hTs : (⟨T.toArray⟩ : ByteArray).size = u.size + 4 := by rw [arr_size]; exact hl2
      have HTell : Hid (TellD T zeroD 15) := by
        refine .inr (.inl ⟨rfl, rfl, by omega, ?_⟩)
        unfold Sealed
        rw [hl2, Nat.add_sub_cancel, Lib.size_eq]
        exact hno
      have HU := hid (fun W => unpack_c ⟨T.toArray⟩ W (by rw [hTs]; omega))
      have Hset := hid hset
      have Hat := hid hat
      have Hl2 := hid hl2
      have HL := hid hL
      clear e hno hset hat hl2 hL hn hT hkl hTs
      go_enter Try.func5, Try.ntmps5
      go_upto_region 7 with (first
        | (go_at_call 7; ((with_reducible refine (awake_c _).mono ?_); rintro e y1 ⟨rfl, hy1⟩; have hA1 := hid (hA0.out.grow hy1); obtain ⟨c0, c1, c2, c3, c4, c5, c6⟩ := hA1.out.box.cells; clear hy1))
        | (go_at_call 8; (refine (HPk.out _ hA1.out).mono ?_; rintro e w1 ⟨rfl, hw1⟩; have hW1 := hid (bt hA1.out.below hw1); clear hw1)))
      have hr := Sm.row_new w1 (Sm.sealS u) (grownCap w1 (u.size + 4) 0 5) 5 (by rw [hz]; exact grownCap_ge _ _ _ _)
      rw [HL.out] at hr
      have hw2 : Below w.heap.size w (w1.alloc (.cells (bytesRow (Sm.sealS u) (grownCap w1 (u.size + 4) 0 5)) 5 ((bytesRow (Sm.sealS u) (grownCap w1 (u.size + 4) 0 5)).size, (bytesRow (Sm.sealS u) (grownCap w1 (u.size + 4) 0 5)).size + 1))).drew := (hW1.out.alloc hW1.out.size _).drew
      have hB : w.heap.size ≤ w1.heap.size := hW1.out.size
      clear hcv
      generalize (w1.alloc (.cells (bytesRow (Sm.sealS u) (grownCap w1 (u.size + 4) 0 5)) 5 ((bytesRow (Sm.sealS u) (grownCap w1 (u.size + 4) 0 5)).size, (bytesRow (Sm.sealS u) (grownCap w1 (u.size + 4) 0 5)).size + 1))).drew = w2 at hr hw2 ⊢
      generalize grownCap w1 (u.size + 4) 0 5 = cp
      generalize w1.heap.size = B at hr hB ⊢
      obtain ⟨hcell, hfz⟩ := Hat.out w2 B hr
      have hback := Sm.RowB.back (P := Try.prog) (Hset.out w2 B hr) 24 9 5 cp (u.size + 4) Hl2.out.symm Try.underlying24 Try.underlying5 Try.underlying9
      have HW2 := hid hw2
      clear hw2
      go_upto_region 8 with (fail)
      rw [E.out]
      go_upto_region 10 with (go_at_call 11; ((with_reducible refine (HU.out _).mono ?_); rintro e y4 ⟨mx, cx, aox, Lx, capx, rfl, hrd, hin, ht, hb4⟩; have HM := hid (And.intro hrd (And.intro hin (And.intro ht hb4))); clear hrd hin ht hb4))
      obtain ⟨hrd, hin, ht, hb4⟩ := HM.out
      obtain ⟨rfl, rfl⟩ := tell_one ht HTell.out
      have hbx := box_below y4 (.cells (cellsD zeroD (.slice aox Lx capx)) 26)
      have HS := hid (rsame_c (.agg (cellsD zeroD (.slice aox Lx capx))) (.agg (cellsD zeroD (.slice none 0 0))) zeroD zeroD (y4.alloc (.cells (cellsD zeroD (.slice aox Lx capx)) 26)) ⟨aox, Lx, capx, rfl, hrd.below hbx, hin⟩ ⟨none, 0, 0, rfl, Rd.nil _, zero_in⟩)
      rw [same_yes] at HS
      have HBx := hid (bt (bt (HW2.out.setCell hB (.int .u8 (c.toNat : Int)) (p := ⟨B, k, none⟩)) hb4) hbx)
      clear HM hrd hin ht hb4 hbx
      go_wp2_with (go_at_call 13; (refine HS.out.mono ?_; rintro e y5 ⟨rfl, hy5⟩))
      go_ret
      exact ⟨rfl, bt HBx.out hy5⟩
  · clear hr hi
    go_enter Try.func5, Try.ntmps5
    go_wp2_with (first
      | (go_at_call 7; ((with_reducible refine (awake_c _).mono ?_); rintro e y1 ⟨rfl, hy1⟩; have hA1 := hid (hA0.out.grow hy1); obtain ⟨c0, c1, c2, c3, c4, c5, c6⟩ := hA1.out.box.cells; clear hy1))
      | (go_at_call 8; (refine (pack_no _ m _ (HA _ hA1.out).out hR).mono ?_; rintro e y2 ⟨rfl, hy2⟩)))
    go_ret
    exact ⟨rfl, bt hA1.out.below hy2⟩
end Go.Proofs.Ytnjmmmclelmeiaa.Wr
