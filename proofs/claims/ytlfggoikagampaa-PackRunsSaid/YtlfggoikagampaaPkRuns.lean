/- The statement PackRuns of layer 6 (pack), as a walk: the law, called with any list of bytes and any bytes, returns true and leaves the old memory as it was; what a list of bytes that came in reads as. -/
import Derived.Test.YtlfggoikagampaaPkTells
import Derived.Test.YtlfggoikagampaaPkRunR
import Derived.OpenShut
import Derived.ChangeSlices
import Derived.Carry
namespace Go.Proofs.Ytlfggoikagampaa.Pk
open Go.RowKit Go.Proofs.Ytlfggoikagampaa.Fx Go.ChangeShapes Go.WideShapes

theorem cells_byte : Try.prog.cellsOf 5 = 1 := by kernel_rfl
theorem laid : laidOutB Try.prog = true := by kernel_rfl

/-- a list of bytes that came in. -/
theorem rd_of {H : Type} {enc : TypeId × Value → H} {W : World} {spare : Nat → Bool} {held : Bool} {ao : Option Addr} {len cap : Nat} {d : DataW H} {ps : List MemPlace}
    (h : DataW.Trod enc Try.prog W 0 spare held 33 (.slice ao len cap) d ps) : ∃ l, Rd W (.slice ao len cap) l := by
  obtain ⟨fuel, hf⟩ := h
  rcases open_ints Try.underlying33 Try.underlying5 cells_byte hf with ⟨h0, _⟩ | ⟨a, len', cap', zs, h0, _, hl, hm, hz, _, hc, hw⟩
  · simp [Value.cells] at h0
    obtain ⟨rfl, rfl, rfl⟩ := h0
    exact ⟨[], Rd.nil W⟩
  · simp [Value.cells] at h0
    obtain ⟨rfl, rfl, rfl⟩ := h0
    have hlm : len ≤ zs.length := by rw [hz]; split <;> omega
    have hlen : ((zs.take len).map fun z => UInt8.ofNat z.toNat).length = len := by simp; omega
    refine ⟨(zs.take len).map fun z => UInt8.ofNat z.toNat, some a, len, cap, rfl, hlen, hl, by unfold maxLen at hm; omega, fun hp => ?_⟩
    rw [hlen] at hp
    have h00 := hc 0 (by omega)
    have hs : a.spot = none := by
      have := World.cell?_spot h00
      simpa [Addr.add] using this
    obtain ⟨b, o, sp⟩ := a
    obtain rfl : sp = none := hs
    refine ⟨b, o, rfl, World.block_lt_of_cell? W _ (by simpa [Addr.add] using h00), fun j hj => ?_⟩
    rw [hlen] at hj
    have hcj := hc j (by omega)
    have hadd : (⟨b, o, none⟩ : Addr).add j = ⟨b, o + j, none⟩ := by unfold Addr.add; split <;> simp_all
    have hzj : zs.getD j 0 = zs[j]'(by omega) := by simp [List.getD, List.getElem?_eq_getElem (show j < zs.length by omega)]
    rw [hadd, hzj] at hcj
    have hb := bounds_u8 (hw (zs[j]'(by omega)) (List.getElem_mem _))
    rw [hcj]
    have : ((UInt8.ofNat (zs[j]'(by omega)).toNat).toNat : Int) = zs[j]'(by omega) := by rw [byte_of _ (by omega)]; omega
    simp only [List.getElem_map, List.getElem_take, this]

set_option maxRecDepth 100000 in
set_option maxHeartbeats 2000000 in
theorem runs_w (ao : Option Addr) (L cap : Nat) (l : List UInt8) (s : ByteArray) (w : World) (h : Rd w (.slice ao L cap) l) (hs : s.size ≤ maxLen) :
    Calls Try.prog 5 #[.slice ao L cap, .string s] w fun e w' => e = .returned (.bool true) ∧ Below w.heap.size w w' := by
  unfold maxLen at hs
  have hL : l.length = L ∧ L ≤ 9223372036854775807 := by
    obtain ⟨ao', L', cap', e, h1, h2, h3, _⟩ := h
    injection e with e1 e2 e3
    subst e1 e2 e3
    exact ⟨h1, by omega⟩
  obtain ⟨hL, hLm⟩ := hL
  by_cases h200 : 200 < L
  · clear hL
    go_enter Try.func5, Try.ntmps5
    go_wp2_with (go_at_call 7; ((with_reducible refine (awake_c _).mono ?_); rintro e w' ⟨rfl, hw⟩))
    go_ret
    exact ⟨rfl, hw⟩
  · by_cases hs200 : 200 < s.size
    · clear hL
      go_enter Try.func5, Try.ntmps5
      go_wp2_with (go_at_call 7; ((with_reducible refine (awake_c _).mono ?_); rintro e w' ⟨rfl, hw⟩))
      go_ret
      exact ⟨rfl, hw⟩
    · by_cases hf : fitB l = true
      · have c1 := hid (fun W hv => run_ok (.slice ao L cap) l W hv hf)
        have c2 := fun W hv => fits_c (.slice ao L cap) l W hv
        have c3 := fun W hv => rfits_c (.slice ao L cap) l W hv
        rw [hf] at c2 c3
        have C2 := hid c2
        have C3 := hid c3
        have h64 := fit_len hf
        have c4 := hid (fun W hv => rrun_c (.slice ao L cap) l W hv h64)
        have hrl := run_len l (by omega)
        have z1 : (⟨(runL l).toArray⟩ : ByteArray).size = (runL l).length := List.size_toArray
        have r1 : readR ((⟨(runL l).toArray⟩ : ByteArray) ++ s).data.toList = (l, (runL l).length, 0) := by
          rw [ByteArray.data_append, Array.toList_append]; exact readR_run l _ hf
        have c5 : Hid (∀ W : World, Calls Try.prog 18 #[.string ((⟨(runL l).toArray⟩ : ByteArray) ++ s)] W (Told (l, (⟨(runL l).toArray⟩ : ByteArray).size, 0) W)) := by
          intro W
          have := readRun_c ((⟨(runL l).toArray⟩ : ByteArray) ++ s) W (by rw [ByteArray.size_append, z1]; omega)
          rw [r1] at this
          exact this
        have c6 := hid (fun v u W hv hu => same_c v u l W hv hu)
        have a1 : ∀ W : World, (Op.stringOp .add (⟨(runL l).toArray⟩ : ByteArray) s).run Try.prog W = .ok (.string ((⟨(runL l).toArray⟩ : ByteArray) ++ s)) W := fun W => run_string_add_sum W _ _ (by rw [z1]; omega)
        have hz : (runL l).length ≤ 1000 := by omega
        clear c2 c3 r1 hrl hf
        generalize (⟨(runL l).toArray⟩ : ByteArray) = S at c1 c4 c5 a1 z1
        rw [← z1] at hz
        clear z1 hL
        go_enter Try.func5, Try.ntmps5
        go_wp2_with (first
          | (go_at_call 7; ((with_reducible refine (awake_c _).mono ?_); rintro e w1 ⟨rfl, hw1⟩))
          | (go_at_call 15; ((with_reducible refine (c1.out _ (h.below hw1)).mono ?_); rintro e w2 ⟨rfl, hw2⟩; have hh := h.below (btrans hw1 hw2)))
          | (go_at_call 16; ((with_reducible refine (C2.out _ hh).mono ?_); rintro e w' ⟨rfl, rfl⟩))
          | (go_at_call 17; ((with_reducible refine (C3.out _ hh).mono ?_); rintro e w' ⟨rfl, rfl⟩))
          | (go_at_call 18; ((with_reducible refine (c5.out _).mono ?_); rintro e w3 ⟨v3, rfl, hv3, hw3⟩))
          | (go_at_call 19; ((with_reducible refine (c4.out _ (hh.below hw3)).mono ?_); rintro e w4 ⟨rfl, hw4⟩))
          | (go_at_call 20; ((with_reducible refine (c6.out _ _ _ (hv3.below hw4) ((hh.below hw3).below hw4)).mono ?_); rintro e w' ⟨rfl, q, rfl⟩)))
        go_ret
        exact ⟨rfl, btrans (btrans (btrans (btrans hw1 hw2) hw3) hw4) (below_draws _ q)⟩
      · have hf : fitB l = false := by simpa using hf
        have c1 := hid (fun W hv => run_no (.slice ao L cap) l W hv hf)
        have c2 := fun W hv => fits_c (.slice ao L cap) l W hv
        have c3 := fun W hv => rfits_c (.slice ao L cap) l W hv
        rw [hf] at c2 c3
        have C2 := hid c2
        have C3 := hid c3
        clear c2 c3 hf hL
        go_enter Try.func5, Try.ntmps5
        go_wp2_with (first
          | (go_at_call 7; ((with_reducible refine (awake_c _).mono ?_); rintro e w1 ⟨rfl, hw1⟩; have hh := h.below hw1))
          | (go_at_call 15; ((with_reducible refine (c1.out _ hh).mono ?_); rintro e w' ⟨rfl, rfl⟩))
          | (go_at_call 16; ((with_reducible refine (C2.out _ hh).mono ?_); rintro e w' ⟨rfl, rfl⟩))
          | (go_at_call 17; ((with_reducible refine (C3.out _ hh).mono ?_); rintro e w' ⟨rfl, rfl⟩)))
        go_ret
        exact ⟨rfl, hw1⟩
end Go.Proofs.Ytlfggoikagampaa.Pk
