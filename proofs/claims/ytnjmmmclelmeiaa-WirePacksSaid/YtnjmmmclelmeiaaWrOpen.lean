/- A datagram that came in: what its value reads as. -/
import Derived.Test.YtnjmmmclelmeiaaWrLaws
import Derived.OpenShut
import Derived.ChangeSlices
import Derived.Carry
import Derived.WideShapes
namespace Go.Proofs.Ytnjmmmclelmeiaa.Wr
open Go.RowKit Go.Proofs.Ytnjmmmclelmeiaa.Fx Go.Proofs.Ytnjmmmclelmeiaa.Pk Go.ChangeShapes Go.WideShapes

theorem one_byte : Try.prog.cellsOf 5 = 1 := by kernel_rfl
theorem laid : laidOutB Try.prog = true := by kernel_rfl

/-- a list of bytes that came in, by its cells. -/
theorem rd_in {H : Type} {enc : TypeId × Value → H} {W : World} {spare : Nat → Bool} {held : Bool} {c : Value} {x : DataW H × List MemPlace} {fuel : Nat}
    (hf : DataW.trod enc Try.prog W 0 spare held fuel 24 [c] = some x) : ∃ ao len cap l, c = .slice ao len cap ∧ Rd W (.slice ao len cap) l := by
  rcases open_ints Try.underlying24 Try.underlying5 one_byte hf with ⟨h0, _⟩ | ⟨a, len, cap, zs, h0, _, hl, hm, hz, _, hc, hw⟩
  · injection h0 with h0
    exact ⟨none, 0, 0, [], h0, Rd.nil W⟩
  · injection h0 with h0
    have hlm : len ≤ zs.length := by rw [hz]; split <;> omega
    have hlen : ((zs.take len).map fun z => UInt8.ofNat z.toNat).length = len := by simp; omega
    refine ⟨some a, len, cap, (zs.take len).map fun z => UInt8.ofNat z.toNat, h0, some a, len, cap, rfl, hlen, hl, by unfold maxLen at hm; omega, fun hp => ?_⟩
    rw [hlen] at hp
    have h00 := hc 0 (by omega)
    have hs : a.spot = none := by
      have := World.cell?_spot h00
      simpa [Addr.add] using this
    obtain ⟨b, o, sp⟩ := a
    obtain rfl : sp = none := hs
    refine ⟨b, o, rfl, World.block_lt_of_cell? W _ (by simpa [Addr.add] using h00), fun j hj => ?_⟩
    rw [hlen] at hj
    have hcj := hc j (by omega)
    have hadd : (⟨b, o, none⟩ : Addr).add j = ⟨b, o + j, none⟩ := by unfold Addr.add; split <;> simp_all
    have hzj : zs.getD j 0 = zs[j]'(by omega) := by simp [List.getD, List.getElem?_eq_getElem (show j < zs.length by omega)]
    rw [hadd, hzj] at hcj
    have hb := bounds_u8 (hw (zs[j]'(by omega)) (List.getElem_mem _))
    rw [hcj]
    have : ((UInt8.ofNat (zs[j]'(by omega)).toNat).toNat : Int) = zs[j]'(by omega) := by rw [byte_of _ (by omega)]; omega
    simp only [List.getElem_map, List.getElem_take, this]

theorem cells_msg : Try.prog.cellsOf 26 = 7 := by kernel_rfl
theorem cells_int : Try.prog.cellsOf 3 = 1 := by kernel_rfl
theorem cells_u32 : Try.prog.cellsOf 22 = 1 := by kernel_rfl
theorem cells_u16 : Try.prog.cellsOf 23 = 1 := by kernel_rfl
theorem cells_list : Try.prog.cellsOf 24 = 1 := by kernel_rfl

/-- a datagram that came in. -/
theorem open_msg {H : Type} {enc : TypeId × Value → H} {W : World} {r : Reach} {b0 : Nat} {spare : Nat → Bool} {held : Bool} {v : Value} {d : DataW H} {p : List MemPlace}
    (hv : Value.okWide Try.prog W r b0 26 v) (h : DataW.Trod enc Try.prog W 0 spare held 26 v d p) :
    ∃ m ao L cap, v = .agg (cellsD m (.slice ao L cap)) ∧ Rd W (.slice ao L cap) m.inputs ∧ InD m := by
  obtain ⟨cs, rfl, hsz⟩ := okWide_struct Try.underlying26 hv
  rw [cells_msg] at hsz
  obtain ⟨fuel, hf⟩ := h
  obtain ⟨xs, n, _, _, _, hxl, hg⟩ := DataW.trod_struct Try.underlying26 hf
  obtain ⟨l⟩ := cs
  match l, hsz with
  | [c0, c1, c2, c3, c4, c5, c6], _ =>
    match xs, hxl with
    | [x0, x1, x2, x3, x4, x5, x6], _ =>
      have g0 : DataW.trod enc Try.prog W 0 spare held n 3 [c0] = some x0 := by simpa [Value.cells, cells_int] using hg 0 _ rfl
      have g1 : DataW.trod enc Try.prog W 0 spare held n 22 [c1] = some x1 := by simpa [Value.cells, cells_u32] using hg 1 _ rfl
      have g2 : DataW.trod enc Try.prog W 0 spare held n 23 [c2] = some x2 := by simpa [Value.cells, cells_u16] using hg 2 _ rfl
      have g3 : DataW.trod enc Try.prog W 0 spare held n 23 [c3] = some x3 := by simpa [Value.cells, cells_u16] using hg 3 _ rfl
      have g4 : DataW.trod enc Try.prog W 0 spare held n 24 [c4] = some x4 := by simpa [Value.cells, cells_list] using hg 4 _ rfl
      have g5 : DataW.trod enc Try.prog W 0 spare held n 22 [c5] = some x5 := by simpa [Value.cells, cells_u32] using hg 5 _ rfl
      have g6 : DataW.trod enc Try.prog W 0 spare held n 3 [c6] = some x6 := by simpa [Value.cells, cells_int] using hg 6 _ rfl
      obtain ⟨k, e0, _, w0⟩ := DataW.trod_int Try.underlying3 g0
      obtain ⟨a, e1, _, w1⟩ := DataW.trod_int Try.underlying22 g1
      obtain ⟨b, e2, _, w2⟩ := DataW.trod_int Try.underlying23 g2
      obtain ⟨c, e3, _, w3⟩ := DataW.trod_int Try.underlying23 g3
      obtain ⟨ao, L, cap, li, e4, hr⟩ := rd_in g4
      obtain ⟨u, e5, _, w5⟩ := DataW.trod_int Try.underlying22 g5
      obtain ⟨q, e6, _, w6⟩ := DataW.trod_int Try.underlying3 g6
      injection e0 with e0; injection e1 with e1; injection e2 with e2; injection e3 with e3; injection e5 with e5; injection e6 with e6
      subst e0 e1 e2 e3 e4 e5 e6
      have i0 := bounds_i64 w0
      have i1 := bounds_u32 w1
      have i2 := bounds_u16 w2
      have i3 := bounds_u16 w3
      have i5 := bounds_u32 w5
      have i6 := bounds_i64 w6
      obtain ⟨a, rfl⟩ := Int.eq_ofNat_of_zero_le i1.1
      obtain ⟨b, rfl⟩ := Int.eq_ofNat_of_zero_le i2.1
      obtain ⟨c, rfl⟩ := Int.eq_ofNat_of_zero_le i3.1
      obtain ⟨u, rfl⟩ := Int.eq_ofNat_of_zero_le i5.1
      exact ⟨⟨k, a, b, c, li, u, q⟩, ao, L, cap, rfl, hr, ⟨i0, by dsimp only; omega, by dsimp only; omega, by dsimp only; omega, by dsimp only; omega, i6⟩⟩
end Go.Proofs.Ytnjmmmclelmeiaa.Wr
