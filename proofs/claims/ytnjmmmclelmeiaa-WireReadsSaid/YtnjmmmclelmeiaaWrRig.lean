/- read of layer 7 (wire): its memory, and bytes of none. -/
import Derived.Test.YtnjmmmclelmeiaaWrRead
namespace Go.Proofs.Ytnjmmmclelmeiaa.Wr
open Go.RowKit Go.Proofs.Ytnjmmmclelmeiaa.Fx Go.Proofs.Ytnjmmmclelmeiaa.Pk

/-- a slice that is read, behind a write to a datagram. -/
theorem Box.rd {w : World} {b : Nat} {m : Dg} {u v : Value} {l : List UInt8} (h : Box w b m u) (hu : ∀ k x, u ≠ .int k x) (hv : Rd w v l) {w' : World} (ho : Only b w w') : Rd w' v l := by
  obtain ⟨ao, L, cap, e, h1, h2, h3, ht⟩ := hv
  refine ⟨ao, L, cap, e, h1, h2, h3, fun hl => ?_⟩
  obtain ⟨g, o, e2, hlt, hc⟩ := ht hl
  have hne : g ≠ b := by
    rintro rfl
    have h0 := hc 0 hl
    rw [Nat.add_zero, cell_of_row w g o _ _ _ h] at h0
    match o, h0 with
    | 0, h0 => simp at h0
    | 1, h0 => simp at h0
    | 2, h0 => simp at h0
    | 3, h0 => simp at h0
    | 4, h0 => simp at h0; exact hu _ _ h0
    | 5, h0 => simp at h0
    | 6, h0 => simp at h0
    | (o + 7), h0 => simp at h0
  have hblk := ho.block g hlt hne
  exact ⟨g, o, e2, Nat.lt_of_lt_of_le hlt ho.size, fun j hj => (World.cell?_of_block hblk).trans (hc j hj)⟩
theorem Box.frozen {w : World} {b : Nat} {m : Dg} {v : Value} (h : Box w b m v) (j : Nat) : w.frozen? ⟨b, j, none⟩ = false := frozen_of_row w b j _ _ h

/-- read's own memory: its answer, the datagram, the reader. -/
structure Rig (B : Nat) (m : Dg) (ao : Option Addr) (L cap : Nat) (S : ByteArray) (f : Bool) (W0 W : World) : Prop where
  res : Box W B zeroD (.slice none 0 0)
  dg : Box W (B + 1) m (.slice ao L cap)
  rd : Rdr W (B + 1 + 1) S f
  vr : Rd W (.slice ao L cap) m.inputs
  below : Below B W0 W
  le : B ≤ W.heap.size

theorem Rig.new (w : World) (m : Dg) (hm : m.inputs = []) (S : ByteArray) : Rig w.heap.size m none 0 0 S false w (((w.alloc (.cells (cellsD zeroD (.slice none 0 0)) 26)).alloc (.cells (cellsD m (.slice none 0 0)) 26)).alloc (.cells #[.string S, .bool false] 64)) := by
  have h0 := Box.new w zeroD (.slice none 0 0)
  have h1 := Box.new (w.alloc (.cells (cellsD zeroD (.slice none 0 0)) 26)) m (.slice none 0 0)
  have h2 := heap_alloc_new ((w.alloc (.cells (cellsD zeroD (.slice none 0 0)) 26)).alloc (.cells (cellsD m (.slice none 0 0)) 26)) (.cells #[.string S, .bool false] 64)
  have e1 : (w.alloc (.cells (cellsD zeroD (.slice none 0 0)) 26)).heap.size = w.heap.size + 1 := by simp
  have e2 : ((w.alloc (.cells (cellsD zeroD (.slice none 0 0)) 26)).alloc (.cells (cellsD m (.slice none 0 0)) 26)).heap.size = w.heap.size + 1 + 1 := by simp
  rw [e1] at h1
  rw [e2] at h2
  refine ⟨(h0.below (box_below _ _)).below (box_below _ _), h1.below (box_below _ _), h2, by rw [hm]; exact Rd.nil _, ?_, ?_⟩
  · exact bt (bt (box_below _ _) (box_below _ _)) (box_below _ _)
  · simp; omega

section
variable {B : Nat} {m : Dg} {ao : Option Addr} {L cap : Nat} {S : ByteArray} {f : Bool} {W0 W : World}
theorem Rig.lt (h : Rig B m ao L cap S f W0 W) : B + 1 + 1 < W.heap.size := (Array.getElem?_eq_some_iff.1 h.rd).1
/-- behind a call of the reader's. -/
theorem Rig.got (h : Rig B m ao L cap S f W0 W) {T : ByteArray} {g : Bool} {W' : World} (hr : Rdr W' (B + 1 + 1) T g) (ho : Only (B + 1 + 1) W W') : Rig B m ao L cap T g W0 W' := by
  have hlt := h.lt
  refine ⟨?_, ?_, hr, h.rd.rd h.vr ho, h.below.trans (ho.below (by omega) (by omega)), Nat.le_trans h.le ho.size⟩
  · have := ho.block B (by omega) (by omega); unfold Box; rw [this]; exact h.res
  · have := ho.block (B + 1) (by omega) (by omega); unfold Box; rw [this]; exact h.dg
/-- behind a store into the datagram. -/
theorem Rig.put (h : Rig B m ao L cap S f W0 W) (j : Nat) (u : Value) (m' : Dg) (ao' : Option Addr) (L' cap' : Nat) (hj : (cellsD m (.slice ao L cap)).setIfInBounds j u = cellsD m' (.slice ao' L' cap')) (hv : Rd W (.slice ao' L' cap') m'.inputs) : Rig B m' ao' L' cap' S f W0 (W.setCell ⟨B + 1, j, none⟩ u) := by
  have hlt := h.lt
  have ho := Only.setCell W (B + 1) j u
  refine ⟨?_, ?_, ?_, h.dg.rd (by intro k x; simp) hv ho, h.below.trans (ho.below (by omega) (by omega)), Nat.le_trans h.le ho.size⟩
  · have := ho.block B (by omega) (by omega); unfold Box; rw [this]; exact h.res
  · unfold Box
    rw [heap_setCell_same W (B + 1) j _ _ _ h.dg, hj]
  · have := ho.block (B + 1 + 1) (by omega) (by omega); unfold Rdr; rw [this]; exact h.rd
end

/-- an answer that lies in a block. -/
theorem results_msg {fn : Func} (h : fn.results = #[.cell 2 26, .tmp 3]) (tmps : Array Value) (W : World) (b : Nat) (hp : tmps[2]?.getD undef = .pointer (some ⟨b, 0, none⟩)) (v0 v1 v2 v3 v4 v5 v6 : Value)
    (c0 : W.cell? ⟨b, 0, none⟩ = some v0) (c1 : W.cell? ⟨b, 1, none⟩ = some v1) (c2 : W.cell? ⟨b, 2, none⟩ = some v2) (c3 : W.cell? ⟨b, 3, none⟩ = some v3) (c4 : W.cell? ⟨b, 4, none⟩ = some v4) (c5 : W.cell? ⟨b, 5, none⟩ = some v5) (c6 : W.cell? ⟨b, 6, none⟩ = some v6) :
    (results fn tmps).run Try.prog W = .ok (.tuple #[.agg #[v0, v1, v2, v3, v4, v5, v6], tmps.getD 3 undef]) W := by
  simp [results, h, hp, go_sem, c0, c1, c2, c3, c4, c5, c6]
theorem st0 {W : World} {b : Nat} {T : TypeId} {x0 x1 x2 x3 x4 x5 x6 : Value} (a : Value) (h : W.heap[b]? = some (.cells #[x0, x1, x2, x3, x4, x5, x6] T (0, 0))) : (W.setCell ⟨b, 0, none⟩ a).heap[b]? = some (.cells #[a, x1, x2, x3, x4, x5, x6] T (0, 0)) := heap_setCell_same W b 0 _ _ a h
theorem st1 {W : World} {b : Nat} {T : TypeId} {x0 x1 x2 x3 x4 x5 x6 : Value} (a : Value) (h : W.heap[b]? = some (.cells #[x0, x1, x2, x3, x4, x5, x6] T (0, 0))) : (W.setCell ⟨b, 1, none⟩ a).heap[b]? = some (.cells #[x0, a, x2, x3, x4, x5, x6] T (0, 0)) := heap_setCell_same W b 1 _ _ a h
theorem st2 {W : World} {b : Nat} {T : TypeId} {x0 x1 x2 x3 x4 x5 x6 : Value} (a : Value) (h : W.heap[b]? = some (.cells #[x0, x1, x2, x3, x4, x5, x6] T (0, 0))) : (W.setCell ⟨b, 2, none⟩ a).heap[b]? = some (.cells #[x0, x1, a, x3, x4, x5, x6] T (0, 0)) := heap_setCell_same W b 2 _ _ a h
theorem st3 {W : World} {b : Nat} {T : TypeId} {x0 x1 x2 x3 x4 x5 x6 : Value} (a : Value) (h : W.heap[b]? = some (.cells #[x0, x1, x2, x3, x4, x5, x6] T (0, 0))) : (W.setCell ⟨b, 3, none⟩ a).heap[b]? = some (.cells #[x0, x1, x2, a, x4, x5, x6] T (0, 0)) := heap_setCell_same W b 3 _ _ a h
theorem st4 {W : World} {b : Nat} {T : TypeId} {x0 x1 x2 x3 x4 x5 x6 : Value} (a : Value) (h : W.heap[b]? = some (.cells #[x0, x1, x2, x3, x4, x5, x6] T (0, 0))) : (W.setCell ⟨b, 4, none⟩ a).heap[b]? = some (.cells #[x0, x1, x2, x3, a, x5, x6] T (0, 0)) := heap_setCell_same W b 4 _ _ a h
theorem st5 {W : World} {b : Nat} {T : TypeId} {x0 x1 x2 x3 x4 x5 x6 : Value} (a : Value) (h : W.heap[b]? = some (.cells #[x0, x1, x2, x3, x4, x5, x6] T (0, 0))) : (W.setCell ⟨b, 5, none⟩ a).heap[b]? = some (.cells #[x0, x1, x2, x3, x4, a, x6] T (0, 0)) := heap_setCell_same W b 5 _ _ a h
theorem st6 {W : World} {b : Nat} {T : TypeId} {x0 x1 x2 x3 x4 x5 x6 : Value} (a : Value) (h : W.heap[b]? = some (.cells #[x0, x1, x2, x3, x4, x5, x6] T (0, 0))) : (W.setCell ⟨b, 6, none⟩ a).heap[b]? = some (.cells #[x0, x1, x2, x3, x4, x5, a] T (0, 0)) := heap_setCell_same W b 6 _ _ a h
/-- the world in which the datagram has been stored as the answer. -/
def stored (P : World) (B : Nat) (m : Dg) (v : Value) : World := ((((((P.setCell ⟨B, 0, none⟩ (.int .i64 m.kind)).setCell ⟨B, 1, none⟩ (.int .u32 (m.nonce : Int))).setCell ⟨B, 2, none⟩ (.int .u16 (m.serial : Int))).setCell ⟨B, 3, none⟩ (.int .u16 (m.ack : Int))).setCell ⟨B, 4, none⟩ v).setCell ⟨B, 5, none⟩ (.int .u32 (m.sum : Int))).setCell ⟨B, 6, none⟩ (.int .i64 m.lead)
theorem set7 {P : World} {B : Nat} {m0 : Dg} {u0 : Value} (h : Box P B m0 u0) (m : Dg) (v : Value) : Box (stored P B m v) B m v := by
  unfold Box at h ⊢
  exact st6 _ (st5 _ (st4 _ (st3 _ (st2 _ (st1 _ (st0 _ h))))))
theorem only7 (P : World) (B : Nat) (m : Dg) (v : Value) : Only B P (stored P B m v) := by
  unfold stored
  exact ((((((Only.setCell P B 0 _).trans (Only.setCell _ B 1 _)).trans (Only.setCell _ B 2 _)).trans (Only.setCell _ B 3 _)).trans (Only.setCell _ B 4 _)).trans (Only.setCell _ B 5 _)).trans (Only.setCell _ B 6 _)
theorem Rig.fin {B : Nat} {m : Dg} {ao : Option Addr} {L cap : Nat} {S : ByteArray} {f : Bool} {W0 W : World} (h : Rig B m ao L cap S f W0 W) (hi : InD m) :
    Box (stored W B m (.slice ao L cap)).drew B m (.slice ao L cap) ∧ Holds (stored W B m (.slice ao L cap)).drew (.agg (cellsD m (.slice ao L cap))) m ∧ Below B W0 (stored W B m (.slice ao L cap)).drew := by
  have h1 := set7 h.res m (.slice ao L cap)
  have h2 := only7 W B m (.slice ao L cap)
  have h3 := h.res.rd (by intro k x; simp) h.vr h2
  generalize stored W B m (.slice ao L cap) = F at h1 h2 h3
  have hd : Below F.heap.size F F.drew := bdrew1 (Below.refl _ _)
  exact ⟨h1.below hd, ⟨ao, L, cap, rfl, h3.below hd, hi⟩, bdrew1 (h.below.trans (h2.below (Nat.le_refl _) h.le))⟩

set_option maxHeartbeats 2000000 in
theorem read_no (s : ByteArray) (w : World) (hs : s.size ≤ 1073741824) (h : s.size < 2 ∨ ∃ h0 : 0 < s.size, s[0] ≠ 80) :
    Calls Try.prog 30 #[.string s] w fun e w' => e = .returned (.tuple #[.agg (cellsD zeroD (.slice none 0 0)), .bool false]) ∧ Below w.heap.size w w' := by
  by_cases h2 : s.size < 2
  · clear h
    go_enter Try.func30, Try.ntmps30
    go_wp2_with fail
    go_returns
    exact ⟨rfl, box_below w _⟩
  · have h0 : 0 < s.size := by omega
    have hne : ((s[0].toNat : Int) != 80) = true := by
      rcases h with h | ⟨_, h⟩
      · exact absurd h h2
      · simp
        intro e
        exact h (UInt8.toNat_inj.1 (by simpa using (by omega : s[0].toNat = 80)))
    clear h
    go_enter Try.func30, Try.ntmps30
    go_wp2_with fail
    go_returns
    exact ⟨rfl, box_below w _⟩

end Go.Proofs.Ytnjmmmclelmeiaa.Wr
