/- The law FeedRight answers true: whatever is put, taken and trimmed, taken anew from the first wrong frame on nothing is wrong any more. -/
import Derived.Test.YtkeedegbfpenjaaFdNil
import Derived.ProofKit
import Derived.OpenShut
import Derived.Carry
import Derived.Deep.Slices
import Derived.Deep.SlicePairs
import Derived.Deep.Strs
namespace Go.Proofs.Ytkeedegbfpenjaa.Fd
open Go.RowKit Go.Proofs.Ytkeedegbfpenjaa.Rg Go.ChangeShapes Go.WideShapes Go.ChangeAt Go.Deep
set_option linter.unusedVariables false

/-- the acts that came in: of each place its three fields. -/
def Acts (w : World) (ad : Option Addr) (len : Nat) : Prop := ∀ j, j < len → ∃ (c off : Nat) (kd f x : Int), ad = some ⟨c, off, none⟩ ∧ c < w.heap.size ∧ (0 ≤ x ∧ x ≤ 255) ∧
  w.cell? ⟨c, off + j * 3, none⟩ = some (.int .i64 kd) ∧ w.cell? ⟨c, off + j * 3 + 1, none⟩ = some (.int .i64 f) ∧ w.cell? ⟨c, off + j * 3 + 2, none⟩ = some (.int .u8 x)

theorem cells_act : Try.prog.cellsOf 27 = 3 := by kernel_rfl
theorem cells_int : Try.prog.cellsOf 3 = 1 := by kernel_rfl
theorem cells_u8 : Try.prog.cellsOf 5 = 1 := by kernel_rfl
theorem laid : laidOutB Try.prog = true := by kernel_rfl

theorem acts_of {H : Type} {enc : TypeId × Value → H} {W : World} {spare : Nat → Bool} {held : Bool} {ao : Option Addr} {len cap : Nat} {d : DataW H} {ps : List MemPlace}
    (h : DataW.Trod enc Try.prog W 0 spare held 22 (.slice ao len cap) d ps) : Acts W ao len := by
  intro j hj
  obtain ⟨fuel, hf⟩ := h
  rcases open_slice Try.underlying22 hf with ⟨h0, _⟩ | ⟨a, len', cap', m, n, D, Pl, h0, _, hl, _, hm, _, hx⟩
  · simp [Value.cells] at h0
    omega
  · simp [Value.cells] at h0
    obtain ⟨rfl, rfl, rfl⟩ := h0
    have hlm : len ≤ m := by rw [hm]; split <;> omega
    have hs : a.spot = none := by
      obtain ⟨cs0, h10, _⟩ := hx 0 (by omega)
      rw [cells_act] at h10
      obtain ⟨_, hl0, hc0⟩ := World.cells?_some h10
      have := World.cell?_spot ((hc0 0 (by omega)).trans (List.getElem?_eq_getElem (by omega)))
      simpa [Addr.add] using this
    obtain ⟨cs, h1, h2⟩ := hx j (by omega)
    rw [cells_act] at h1
    obtain ⟨_, hlen, hcell⟩ := World.cells?_some h1
    obtain ⟨y0, y1, y2, k, _, _, g0, g1, g2⟩ := trod_struct3 Try.underlying27 h2
    match cs, hlen with
    | [v0, v1, v2], _ =>
      simp only [cells_int, cells_u8] at g0 g1 g2
      have e0 := hcell 0 (by omega)
      have e1 := hcell 1 (by omega)
      have e2 := hcell 2 (by omega)
      obtain ⟨c, off, spot⟩ := a
      simp only at hs
      subst hs
      rw [add_add, Addr.add_lit] at e0 e1 e2
      obtain ⟨n0, q0, _⟩ := DataW.trod_int (k := .i64) Try.underlying3 g0
      obtain ⟨n1, q1, _⟩ := DataW.trod_int (k := .i64) Try.underlying3 g1
      obtain ⟨n2, q2, _, w2⟩ := DataW.trod_int (k := .u8) Try.underlying5 g2
      simp at q0 q1 q2 e0 e1 e2
      subst q0 q1 q2
      exact ⟨c, off, n0, n1, n2, rfl, World.block_lt_of_cell? W _ e0, bounds_u8 w2, e0, by rw [Nat.add_assoc]; exact e1, by rw [Nat.add_assoc]; exact e2⟩

theorem kn_again (m : Fd) (w n : Nat) (f : Int) : kn (again m w n) f = kn m f := by
  have e := again_L m w n
  unfold kn
  rw [e.1, e.2]
theorem knV_again (m : Fd) (w n : Nat) (f : Int) : knV (again m w n) f = knV m f := by unfold knV; rw [kn_again]
theorem knB_again (m : Fd) (w n : Nat) (f : Int) : knB (again m w n) f = knB m f := by unfold knB; rw [kn_again]

/-- the feed on its way through the acts, and the act at hand (in block X). -/
structure Run (w0 : World) (b X : Nat) (kd fr a : Int) (m : Fd) (W : World) : Prop where
  ex : ∃ F, Fed W w0.heap.size b F m ∧ ¬ F X
  act : W.heap[X]? = some (.cells #[.int .i64 kd, .int .i64 fr, .int .u8 a] 27 (0, 0))
  below : Below w0.heap.size w0 W
section
variable {w0 : World} {b X : Nat} {kd fr a : Int} {m m' : Fd} {W : World}
theorem Run.cells (h : Run w0 b X kd fr a m W) : W.cell? ⟨X, 0, none⟩ = some (.int .i64 kd) ∧ W.cell? ⟨X, 1, none⟩ = some (.int .i64 fr) ∧ W.cell? ⟨X, 2, none⟩ = some (.int .u8 a) := by
  refine ⟨?_, ?_, ?_⟩
  · rw [cell_of_row W X 0 _ _ _ h.act]; rfl
  · rw [cell_of_row W X 1 _ _ _ h.act]; rfl
  · rw [cell_of_row W X 2 _ _ _ h.act]; rfl
theorem Run.old (h : Run w0 b X kd fr a m W) {W' : World} (k : Below W.heap.size W W') : Run w0 b X kd fr a m W' := by
  obtain ⟨F, h1, h2⟩ := h.ex
  have hX := (Array.getElem?_eq_some_iff.1 h.act).1
  exact ⟨⟨F, h1.old k, h2⟩, (k.block X hX).trans h.act, h.below.trans (k.mono h.below.size)⟩
theorem Run.drewN (h : Run w0 b X kd fr a m W) (q : Nat) : Run w0 b X kd fr a m (W.drewN q) := h.old ⟨rfl, rfl, rfl, Nat.le_refl _, fun _ _ => rfl⟩
theorem Run.left {W' : World} {F : Nat → Prop} (h : Run w0 b X kd fr a m W) (hF : Fed W w0.heap.size b F m) (hX : ¬ F X) (k : Left w0.heap.size b F m' W W') : Run w0 b X kd fr a m' W' := by
  obtain ⟨F', h1, h2⟩ := k.ex
  have hlt := (Array.getElem?_eq_some_iff.1 h.act).1
  refine ⟨⟨F', h1, fun e => ?_⟩, (k.keeps.block X hlt hX).trans h.act, h.below.trans (k.keeps.below h.below.size hF.ge)⟩
  rcases h2 X e with h3 | h3
  · exact hX h3
  · omega
theorem Run.ok (h : Run w0 b X kd fr a m W) : Ok m := by obtain ⟨F, h1, _⟩ := h.ex; exact h1.ok

theorem Run.put (h : Run w0 b X kd fr a m W) (f x : Int) (hx : 0 ≤ x) : Calls Try.prog 7 #[.pointer (some ⟨b, 0, none⟩), .int .i64 f, .int .u8 x] W fun e w' => ∃ r, e = .returned (.int .i64 r) ∧ Run w0 b X kd fr a (putM m f x) w' := by
  obtain ⟨F, h1, h2⟩ := h.ex
  exact (put_c f x _ b F m W h1 hx).mono fun e w' ⟨he, hL⟩ => ⟨_, he, h.left h1 h2 hL⟩
theorem Run.take (h : Run w0 b X kd fr a m W) (f : Int) : Calls Try.prog 8 #[.pointer (some ⟨b, 0, none⟩), .int .i64 f] W fun e w' => e = .returned (.tuple #[.int .u8 (takeV m f), .bool (takeB m f && decide (isTk m f))]) ∧ Run w0 b X kd fr a (takeM m f) w' := by
  obtain ⟨F, h1, h2⟩ := h.ex
  exact (take_c f _ b F m W h1).mono fun e w' ⟨he, hL⟩ => ⟨he, h.left h1 h2 hL⟩
theorem Run.trim (h : Run w0 b X kd fr a m W) (f : Int) : Calls Try.prog 9 #[.pointer (some ⟨b, 0, none⟩), .int .i64 f] W fun e w' => ∃ r, e = .returned (.int .i64 r) ∧ Run w0 b X kd fr a (trimM m f) w' := by
  obtain ⟨F, h1, h2⟩ := h.ex
  exact (trim_c f _ b F m W h1).mono fun e w' ⟨he, hL⟩ => ⟨_, he, h.left h1 h2 hL⟩
theorem Run.wrong (h : Run w0 b X kd fr a m W) : Calls Try.prog 10 #[.pointer (some ⟨b, 0, none⟩)] W fun e w' => e = .returned (.tuple #[.int .i64 (wrongV m), .bool (wrong m).isSome]) ∧ Run w0 b X kd fr a m w' := by
  obtain ⟨F, h1, h2⟩ := h.ex
  exact (wrong_c _ b F m W h1).mono fun e w' ⟨he, hB⟩ => ⟨he, h.old hB⟩
theorem Run.known (h : Run w0 b X kd fr a m W) (f : Int) (hf : f ≤ 9223372036854775807) : Calls Try.prog 11 #[.pointer (some ⟨b, 0, none⟩), .int .i64 f] W fun e w' => e = .returned (.tuple #[.int .u8 (knV m f), .bool (knB m f)]) ∧ Run w0 b X kd fr a m w' := by
  obtain ⟨F, h1, h2⟩ := h.ex
  exact (known_c f _ b F m W h1 hf).mono fun e w' ⟨he, q, hq⟩ => ⟨he, by rw [hq]; exact h.drewN q⟩
theorem Run.next (h : Run w0 b X kd fr a m W) : Calls Try.prog 13 #[.pointer (some ⟨b, 0, none⟩)] W fun e w' => e = .returned (.int .i64 m.L.length) ∧ Run w0 b X kd fr a m w' := by
  obtain ⟨F, h1, h2⟩ := h.ex
  exact (next_c _ b F m W h1).mono fun e w' ⟨he, q, hq⟩ => ⟨he, by rw [hq]; exact h.drewN q⟩
theorem Run.first (h : Run w0 b X kd fr a m W) : Calls Try.prog 12 #[.pointer (some ⟨b, 0, none⟩)] W fun e w' => e = .returned (.int .i64 m.first) ∧ Run w0 b X kd fr a m w' := by
  obtain ⟨F, h1, h2⟩ := h.ex
  obtain ⟨br, bw, ao, cap, aw, capw, l, hp, _, _, _, _⟩ := h1
  exact (first_c b _ W hp.cells.1).mono fun e w' ⟨he, hw⟩ => ⟨he, by rw [← hw]; exact h⟩
theorem Run.begin {F : Nat → Prop} (h : Fed W w0.heap.size b F m) (hB : Below w0.heap.size w0 W) (kd fr a : Int) : Run w0 b W.heap.size kd fr a m (W.alloc (.cells #[.int .i64 kd, .int .i64 fr, .int .u8 a] 27)) :=
  ⟨⟨F, h.old ((Below.refl _ W).alloc (Nat.le_refl _) _), fun e => by have := h.lt _ e; omega⟩, heap_alloc_new W _, hB.alloc hB.size _⟩
end

set_option maxRecDepth 100000 in
set_option maxHeartbeats 4000000 in
theorem right_w (ao : Option Addr) (len cap : Nat) (w : World) (hA : Acts w ao len) :
    Calls Try.prog 3 #[.slice ao len cap] w fun e w' => e = .returned (.bool true) ∧ Below w.heap.size w w' := by
  have HA := hid hA
  clear hA
  go_enter Try.func3, Try.ntmps3
  go_wp2_with (go_at_call 5; ((with_reducible refine (awake_c _).mono ?_); rintro e w1 ⟨rfl, hB1⟩))
  refine (new_c w.heap.size w1 hB1.size).mono ?_
  rintro e w2 ⟨b, rfl, F0, hF0, _, hB2⟩
  have hBs := hB1.trans (hB2.mono hB1.size)
  clear hB1 hB2
  go_wp2_with fail
  go_loopg [4] 250 (fun gk s4 wr => ∃ (k : Nat) (m : Fd) (F : Nat → Prop), gk + k = 250 ∧ s4 = .int .i64 k ∧ Fed wr w.heap.size b F m ∧ Below w.heap.size w wr)
  case atStart => exact ⟨0, newF, F0, rfl, rfl, hF0, hBs⟩
  case round =>
    obtain ⟨k, m, F, hk, rfl, hF, hB⟩ := hrel
    clear hF0 hBs
    have HF := hid hF
    have HB := hid hB
    by_cases hkl : k < len
    · have d1 : decide ((k : Int) < (len : Int)) = true := by simp; omega
      by_cases hk2 : k < 250
      · have d2 : decide ((k : Int) < 250) = true := by simp; omega
        have hw : IntKind.i64.wrap ((k : Int) + 1) = (k : Int) + 1 := IntWalk.i64_in _ (by omega)
        obtain ⟨c, off, kd, fr, a, rfl, hc, ⟨ha0, ha1⟩, e0, e1, e2⟩ := HA.out k hkl
        have i0 : (0 : Int) ≤ (k : Int) := by omega
        have i1 : (k : Int) < (len : Int) := by omega
        have x0 := (hB.cell (p := ⟨c, off + k * 3, none⟩) hc).trans e0
        have x1 := (hB.cell (p := ⟨c, off + k * 3 + 1, none⟩) hc).trans e1
        have x2 := (hB.cell (p := ⟨c, off + k * 3 + 2, none⟩) hc).trans e2
        have hR := Run.begin hF hB kd fr a
        clear e0 e1 e2 hF hB
        go_upto_region 8 with (fail)
        generalize wr.alloc (.cells #[.int .i64 kd, .int .i64 fr, .int .u8 a] 27) = wx at hR ⊢
        generalize wr.heap.size = X at hR ⊢
        obtain ⟨y0, y1, y2⟩ := hR.cells
        have HR := hid hR
        clear x0 x1 x2 HF HB hR i0 i1
        have hkd : ((kd == 1) = true ∧ (kd == 3) = false) ∨ ((kd == 1) = false ∧ (kd == 2) = true ∧ (kd == 3) = false) ∨ ((kd == 1) = false ∧ (kd == 2) = false ∧ (kd == 3) = false) ∨ ((kd == 1) = false ∧ (kd == 2) = false ∧ (kd == 3) = true) := by
          by_cases h1 : kd = 1
          · exact .inl ⟨by simp [h1], by simp [h1]⟩
          · by_cases h2 : kd = 2
            · exact .inr (.inl ⟨by simp [h2], by simp [h2], by simp [h2]⟩)
            · by_cases h3 : kd = 3
              · exact .inr (.inr (.inr ⟨by simp [h3], by simp [h3], by simp [h3]⟩))
              · exact .inr (.inr (.inl ⟨by simpa using h1, by simpa using h2, by simpa using h3⟩))
        rcases hkd with ⟨k1, k3⟩ | ⟨k1, k2, k3⟩ | ⟨k1, k2, k3⟩ | ⟨k1, k2, k3⟩
        · have HP := hid (HR.out.put fr a ha0)
          go_upto_region 15 with (go_at_call 7; ((with_reducible refine HP.out.mono ?_); rintro e wy ⟨r, rfl, hR2⟩))
          obtain ⟨m2, HR2⟩ : ∃ m2, Hid (Run w b X kd fr a m2 wy) := ⟨_, hR2⟩
          clear hR2
          have HW := hid HR2.out.wrong
          cases hwr : wrong m2 with
          | none =>
            rw [hwr] at HW
            have HW2 : Hid (Calls Try.prog 10 #[.pointer (some ⟨b, 0, none⟩)] wy fun e w' => e = .returned (.tuple #[.int .i64 (wrongV m2), .bool false]) ∧ Run w b X kd fr a m2 w') := HW.out
            clear HW hwr
            go_wp2_with (go_at_call 10; ((with_reducible refine HW2.out.mono ?_); rintro e w5 ⟨rfl, hR5⟩))
            go_roundg (249 - k)
            case measure => omega
            case rel =>
              obtain ⟨F5, h5, _⟩ := hR5.ex
              exact ⟨k + 1, m2, F5, by omega, by go_num, h5, hR5.below⟩
          | some kw =>
            obtain ⟨g1, g2, _, _⟩ := wrong_some hwr
            have hko := HR2.out.ok
            have V1 : Hid (wrongV m2 = (kw : Int)) := by show _ = _; simp [wrongV, hwr]
            have hkn := kn_in (m := m2) g1 g2
            have hmay := kn_may hko hkn
            obtain ⟨y, hy⟩ : ∃ y, m2.L[kw]'g2 = y := ⟨_, rfl⟩
            rw [hy] at hkn hmay
            have KV : Hid (knV m2 (kw : Int) = y) := by show _ = _; simp [knV, hkn]
            have KB : Hid (knB m2 (kw : Int) = true) := by show _ = _; simp [knB, hkn]
            have hlen2 := hko.len
            have q1 : decide (63 < y) = false := by simp; omega
            have q2 : decide (kw < m2.first) = false := by simp; omega
            have q3 : decide (m2.L.length ≤ kw) = false := by simp; omega
            have hkw : (kw : Int) ≤ 9223372036854775807 := by omega
            have HW2 : Hid (Calls Try.prog 10 #[.pointer (some ⟨b, 0, none⟩)] wy fun e w' => e = .returned (.tuple #[.int .i64 (kw : Int), .bool true]) ∧ Run w b X kd fr a m2 w') := by
              have := HW.out
              rw [V1.out, hwr] at this
              exact this
            clear HW hwr hkn hy hmay hko
            go_wp2_with (first
              | (go_at_call 10; ((with_reducible refine HW2.out.mono ?_); rintro e w5 ⟨rfl, hR5⟩))
              | (go_at_call 11; ((with_reducible refine (hR5.known _ hkw).mono ?_); rintro e w6 ⟨rfl, hR6⟩; rw [KV.out, KB.out]))
              | (go_at_call 12; ((with_reducible refine hR6.first.mono ?_); rintro e w7 ⟨rfl, hR7⟩))
              | (go_at_call 13; ((with_reducible refine hR7.next.mono ?_); rintro e w8 ⟨rfl, hR8⟩; have z0 := hR8.cells.1)))
            go_roundg (249 - k)
            case measure => omega
            case rel =>
              obtain ⟨F5, h5, _⟩ := hR8.ex
              exact ⟨k + 1, m2, F5, by omega, by go_num, h5, hR8.below⟩
        · have HP := hid (HR.out.take fr)
          go_upto_region 15 with (go_at_call 8; ((with_reducible refine HP.out.mono ?_); rintro e wy ⟨rfl, hR2⟩))
          obtain ⟨m2, HR2⟩ : ∃ m2, Hid (Run w b X kd fr a m2 wy) := ⟨_, hR2⟩
          clear hR2
          have HW := hid HR2.out.wrong
          cases hwr : wrong m2 with
          | none =>
            rw [hwr] at HW
            have HW2 : Hid (Calls Try.prog 10 #[.pointer (some ⟨b, 0, none⟩)] wy fun e w' => e = .returned (.tuple #[.int .i64 (wrongV m2), .bool false]) ∧ Run w b X kd fr a m2 w') := HW.out
            clear HW hwr
            go_wp2_with (go_at_call 10; ((with_reducible refine HW2.out.mono ?_); rintro e w5 ⟨rfl, hR5⟩))
            go_roundg (249 - k)
            case measure => omega
            case rel =>
              obtain ⟨F5, h5, _⟩ := hR5.ex
              exact ⟨k + 1, m2, F5, by omega, by go_num, h5, hR5.below⟩
          | some kw =>
            obtain ⟨g1, g2, _, _⟩ := wrong_some hwr
            have hko := HR2.out.ok
            have V1 : Hid (wrongV m2 = (kw : Int)) := by show _ = _; simp [wrongV, hwr]
            have hkn := kn_in (m := m2) g1 g2
            have hmay := kn_may hko hkn
            obtain ⟨y, hy⟩ : ∃ y, m2.L[kw]'g2 = y := ⟨_, rfl⟩
            rw [hy] at hkn hmay
            have KV : Hid (knV m2 (kw : Int) = y) := by show _ = _; simp [knV, hkn]
            have KB : Hid (knB m2 (kw : Int) = true) := by show _ = _; simp [knB, hkn]
            have hlen2 := hko.len
            have q1 : decide (63 < y) = false := by simp; omega
            have q2 : decide (kw < m2.first) = false := by simp; omega
            have q3 : decide (m2.L.length ≤ kw) = false := by simp; omega
            have hkw : (kw : Int) ≤ 9223372036854775807 := by omega
            have HW2 : Hid (Calls Try.prog 10 #[.pointer (some ⟨b, 0, none⟩)] wy fun e w' => e = .returned (.tuple #[.int .i64 (kw : Int), .bool true]) ∧ Run w b X kd fr a m2 w') := by
              have := HW.out
              rw [V1.out, hwr] at this
              exact this
            clear HW hwr hkn hy hmay hko
            go_wp2_with (first
              | (go_at_call 10; ((with_reducible refine HW2.out.mono ?_); rintro e w5 ⟨rfl, hR5⟩))
              | (go_at_call 11; ((with_reducible refine (hR5.known _ hkw).mono ?_); rintro e w6 ⟨rfl, hR6⟩; rw [KV.out, KB.out]))
              | (go_at_call 12; ((with_reducible refine hR6.first.mono ?_); rintro e w7 ⟨rfl, hR7⟩))
              | (go_at_call 13; ((with_reducible refine hR7.next.mono ?_); rintro e w8 ⟨rfl, hR8⟩; have z0 := hR8.cells.1)))
            go_roundg (249 - k)
            case measure => omega
            case rel =>
              obtain ⟨F5, h5, _⟩ := hR8.ex
              exact ⟨k + 1, m2, F5, by omega, by go_num, h5, hR8.below⟩
        · have hR2 := HR.out
          go_upto_region 15 with (fail)
          generalize wx = wy at *
          obtain ⟨m2, HR2⟩ : ∃ m2, Hid (Run w b X kd fr a m2 wy) := ⟨_, hR2⟩
          clear hR2
          have HW := hid HR2.out.wrong
          cases hwr : wrong m2 with
          | none =>
            rw [hwr] at HW
            have HW2 : Hid (Calls Try.prog 10 #[.pointer (some ⟨b, 0, none⟩)] wy fun e w' => e = .returned (.tuple #[.int .i64 (wrongV m2), .bool false]) ∧ Run w b X kd fr a m2 w') := HW.out
            clear HW hwr
            go_wp2_with (go_at_call 10; ((with_reducible refine HW2.out.mono ?_); rintro e w5 ⟨rfl, hR5⟩))
            go_roundg (249 - k)
            case measure => omega
            case rel =>
              obtain ⟨F5, h5, _⟩ := hR5.ex
              exact ⟨k + 1, m2, F5, by omega, by go_num, h5, hR5.below⟩
          | some kw =>
            obtain ⟨g1, g2, _, _⟩ := wrong_some hwr
            have hko := HR2.out.ok
            have V1 : Hid (wrongV m2 = (kw : Int)) := by show _ = _; simp [wrongV, hwr]
            have hkn := kn_in (m := m2) g1 g2
            have hmay := kn_may hko hkn
            obtain ⟨y, hy⟩ : ∃ y, m2.L[kw]'g2 = y := ⟨_, rfl⟩
            rw [hy] at hkn hmay
            have KV : Hid (knV m2 (kw : Int) = y) := by show _ = _; simp [knV, hkn]
            have KB : Hid (knB m2 (kw : Int) = true) := by show _ = _; simp [knB, hkn]
            have hlen2 := hko.len
            have q1 : decide (63 < y) = false := by simp; omega
            have q2 : decide (kw < m2.first) = false := by simp; omega
            have q3 : decide (m2.L.length ≤ kw) = false := by simp; omega
            have hkw : (kw : Int) ≤ 9223372036854775807 := by omega
            have HW2 : Hid (Calls Try.prog 10 #[.pointer (some ⟨b, 0, none⟩)] wy fun e w' => e = .returned (.tuple #[.int .i64 (kw : Int), .bool true]) ∧ Run w b X kd fr a m2 w') := by
              have := HW.out
              rw [V1.out, hwr] at this
              exact this
            clear HW hwr hkn hy hmay hko
            go_wp2_with (first
              | (go_at_call 10; ((with_reducible refine HW2.out.mono ?_); rintro e w5 ⟨rfl, hR5⟩))
              | (go_at_call 11; ((with_reducible refine (hR5.known _ hkw).mono ?_); rintro e w6 ⟨rfl, hR6⟩; rw [KV.out, KB.out]))
              | (go_at_call 12; ((with_reducible refine hR6.first.mono ?_); rintro e w7 ⟨rfl, hR7⟩))
              | (go_at_call 13; ((with_reducible refine hR7.next.mono ?_); rintro e w8 ⟨rfl, hR8⟩; have z0 := hR8.cells.1)))
            go_roundg (249 - k)
            case measure => omega
            case rel =>
              obtain ⟨F5, h5, _⟩ := hR8.ex
              exact ⟨k + 1, m2, F5, by omega, by go_num, h5, hR8.below⟩
        · have HP := hid (HR.out.trim fr)
          go_upto_region 15 with (go_at_call 9; ((with_reducible refine HP.out.mono ?_); rintro e wy ⟨r, rfl, hR2⟩))
          obtain ⟨m2, HR2⟩ : ∃ m2, Hid (Run w b X kd fr a m2 wy) := ⟨_, hR2⟩
          clear hR2
          have HW := hid HR2.out.wrong
          cases hwr : wrong m2 with
          | none =>
            rw [hwr] at HW
            have HW2 : Hid (Calls Try.prog 10 #[.pointer (some ⟨b, 0, none⟩)] wy fun e w' => e = .returned (.tuple #[.int .i64 (wrongV m2), .bool false]) ∧ Run w b X kd fr a m2 w') := HW.out
            clear HW hwr
            go_wp2_with (go_at_call 10; ((with_reducible refine HW2.out.mono ?_); rintro e w5 ⟨rfl, hR5⟩))
            go_roundg (249 - k)
            case measure => omega
            case rel =>
              obtain ⟨F5, h5, _⟩ := hR5.ex
              exact ⟨k + 1, m2, F5, by omega, by go_num, h5, hR5.below⟩
          | some kw =>
            obtain ⟨g1, g2, _, _⟩ := wrong_some hwr
            have hko := HR2.out.ok
            have V1 : Hid (wrongV m2 = (kw : Int)) := by show _ = _; simp [wrongV, hwr]
            have hkn := kn_in (m := m2) g1 g2
            have hmay := kn_may hko hkn
            obtain ⟨y, hy⟩ : ∃ y, m2.L[kw]'g2 = y := ⟨_, rfl⟩
            rw [hy] at hkn hmay
            have KV : Hid (knV m2 (kw : Int) = y) := by show _ = _; simp [knV, hkn]
            have KB : Hid (knB m2 (kw : Int) = true) := by show _ = _; simp [knB, hkn]
            have hlen2 := hko.len
            have q1 : decide (63 < y) = false := by simp; omega
            have q2 : decide (kw < m2.first) = false := by simp; omega
            have q3 : decide (m2.L.length ≤ kw) = false := by simp; omega
            have hkw : (kw : Int) ≤ 9223372036854775807 := by omega
            have HW2 : Hid (Calls Try.prog 10 #[.pointer (some ⟨b, 0, none⟩)] wy fun e w' => e = .returned (.tuple #[.int .i64 (kw : Int), .bool true]) ∧ Run w b X kd fr a m2 w') := by
              have := HW.out
              rw [V1.out, hwr] at this
              exact this
            have HA2 := hid (again_none hko hwr)
            have HO2 := hid hko
            have HL2 := hid (fun n => again_L m2 kw n)
            clear HW hwr hkn hy hmay hko
            go_wp2_with (first
              | (go_at_call 10; ((with_reducible refine HW2.out.mono ?_); rintro e w5 ⟨rfl, hR5⟩))
              | (go_at_call 11; ((with_reducible refine (hR5.known _ hkw).mono ?_); rintro e w6 ⟨rfl, hR6⟩; rw [KV.out, KB.out]))
              | (go_at_call 12; ((with_reducible refine hR6.first.mono ?_); rintro e w7 ⟨rfl, hR7⟩))
              | (go_at_call 13; ((with_reducible refine hR7.next.mono ?_); rintro e w8 ⟨rfl, hR8⟩; have z0 := hR8.cells.1)))
            clear z0 hR5 hR6 hR7
            go_loopg [10] (m2.L.length - kw) (fun gj s10 wz => ∃ j : Nat, gj + j = m2.L.length - kw ∧ s10 = .int .i64 ((kw + j : Nat) : Int) ∧ Run w b X kd fr a (again m2 kw j) wz)
            case atStart => exact ⟨0, rfl, rfl, hR8⟩
            case round =>
              obtain ⟨j, hj, rfl, hRj⟩ := hrel
              clear hR8
              have HN0 := hid hRj.next
              rw [(HL2.out j).1] at HN0
              have HRJ := hid hRj
              by_cases hjl : kw + j < m2.L.length
              · obtain ⟨n, hn⟩ : ∃ n, kw + j = n := ⟨_, rfl⟩
                rw [hn] at hjl ⊢
                have t1 : decide ((n : Int) < (m2.L.length : Int)) = true := by simp; omega
                have hkn := kn_in (m := m2) (k := n) (by omega) hjl
                obtain ⟨z, hz⟩ : ∃ z, m2.L[n]'hjl = z := ⟨_, rfl⟩
                rw [hz] at hkn
                have tkn : kn (again m2 kw j) (n : Int) = some z := by rw [kn_again]; exact hkn
                have tis : isTk (again m2 kw j) (n : Int) := ⟨by rw [(HL2.out j).2]; omega, by omega⟩
                have TV : Hid (takeV (again m2 kw j) (n : Int) = z) := by show _ = _; unfold takeV; rw [if_pos tis]; simp [tk, tkn]
                have TB : Hid ((takeB (again m2 kw j) (n : Int) && decide (isTk (again m2 kw j) (n : Int))) = true) := by show _ = _; simp [takeB, tkn, tis]
                have KV2 : Hid (knV (again m2 kw (j + 1)) (n : Int) = z) := by show _ = _; rw [knV_again]; simp [knV, hkn]
                have KB2 : Hid (knB (again m2 kw (j + 1)) (n : Int) = true) := by show _ = _; rw [knB_again]; simp [knB, hkn]
                have hkj : (n : Int) ≤ 9223372036854775807 := by omega
                have HT : Hid (∀ W, Run w b X kd fr a (again m2 kw j) W → Calls Try.prog 8 #[.pointer (some ⟨b, 0, none⟩), .int .i64 (n : Int)] W fun e w' => e = .returned (.tuple #[.int .u8 z, .bool true]) ∧ Run w b X kd fr a (again m2 kw (j + 1)) w') := by
                  intro W hW
                  have := hW.take (n : Int)
                  rw [TV.out, TB.out] at this
                  rw [again, hn]
                  exact this
                have HK2 : Hid (∀ W, Run w b X kd fr a (again m2 kw (j + 1)) W → Calls Try.prog 11 #[.pointer (some ⟨b, 0, none⟩), .int .i64 (n : Int)] W fun e w' => e = .returned (.tuple #[.int .u8 z, .bool true]) ∧ Run w b X kd fr a (again m2 kw (j + 1)) w') := by
                  intro W hW
                  have := hW.known (n : Int) hkj
                  rw [KV2.out, KB2.out] at this
                  exact this
                have hw2 : IntKind.i64.wrap ((n : Int) + 1) = (n : Int) + 1 := IntWalk.i64_in _ (by omega)
                have HNN := hid hn
                clear hkn tkn tis TV TB KV2 KB2 hRj hz hn
                go_wp2_with (first
                  | (go_at_call 13; ((with_reducible refine HN0.out.mono ?_); rintro e v5 ⟨rfl, hS5⟩))
                  | (go_at_call 8; ((with_reducible refine (HT.out _ hS5).mono ?_); rintro e v6 ⟨rfl, hS6⟩))
                  | (go_at_call 11; ((with_reducible refine (HK2.out _ hS6).mono ?_); rintro e v7 ⟨rfl, hS7⟩)))
                go_roundg (m2.L.length - kw - (j + 1))
                case measure => have := HNN.out; omega
                case rel => exact ⟨j + 1, by have := HNN.out; omega, by have := HNN.out; go_num, hS7⟩
              · have hje : j = m2.L.length - kw := by omega
                have t1 : decide (((kw + j : Nat) : Int) < (m2.L.length : Int)) = false := by simp; omega
                have HE : Hid (wrong (again m2 kw j) = none) := by show _ = _; rw [hje]; exact HA2.out
                have HW3 : Hid (∀ W, Run w b X kd fr a (again m2 kw j) W → Calls Try.prog 10 #[.pointer (some ⟨b, 0, none⟩)] W fun e w' => e = .returned (.tuple #[.int .i64 (wrongV (again m2 kw j)), .bool false]) ∧ Run w b X kd fr a (again m2 kw j) w') := by
                  intro W hW
                  have := hW.wrong
                  rw [HE.out] at this
                  exact this
                clear hRj hje
                go_wp2_with (first
                  | (go_at_call 13; ((with_reducible refine HN0.out.mono ?_); rintro e v5 ⟨rfl, hS5⟩))
                  | (go_at_call 10; ((with_reducible refine (HW3.out _ hS5).mono ?_); rintro e v6 ⟨rfl, hS6⟩)))
                go_roundg (249 - k)
                case measure => omega
                case rel =>
                  obtain ⟨F5, h5, _⟩ := hS6.ex
                  exact ⟨k + 1, _, F5, by omega, by go_num, h5, hS6.below⟩
      · have d2 : decide ((k : Int) < 250) = false := by simp; omega
        go_wp2_with fail
        go_ret
        exact ⟨rfl, HB.out⟩
    · have d1 : decide ((k : Int) < (len : Int)) = false := by simp; omega
      go_wp2_with fail
      go_ret
      exact ⟨rfl, HB.out⟩

end Go.Proofs.Ytkeedegbfpenjaa.Fd
