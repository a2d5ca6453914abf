/- What fields of the document's layer 7 (wire) returns at inputs. -/
import Derived.Test.YtnjmmmclelmeiaaWrFd
import Derived.Deep.RegionWith
import Derived.Laws.Strings2
namespace Go.Proofs.Ytnjmmmclelmeiaa.Wr
open Go.RowKit Go.Proofs.Ytnjmmmclelmeiaa.Fx Go.Proofs.Ytnjmmmclelmeiaa.Pk

/-- fields' own memory: its answer, the datagram. -/
structure Duo (B : Nat) (m : Dg) (ao : Option Addr) (L cap : Nat) (W0 W : World) : Prop where
  res : Box W B zeroD (.slice none 0 0)
  dg : Box W (B + 1) m (.slice ao L cap)
  vr : Rd W (.slice ao L cap) m.inputs
  below : Below B W0 W
  le : B ≤ W.heap.size
section
variable {B : Nat} {m : Dg} {ao : Option Addr} {L cap : Nat} {W0 W : World}
theorem Duo.grow (h : Duo B m ao L cap W0 W) {W' : World} (hb : Below W.heap.size W W') : Duo B m ao L cap W0 W' :=
  ⟨h.res.below hb, h.dg.below hb, h.vr.below hb, h.below.trans (hb.mono h.le), Nat.le_trans h.le hb.size⟩
theorem Duo.put (h : Duo B m ao L cap W0 W) (j : Nat) (u : Value) (m' : Dg) (ao' : Option Addr) (L' cap' : Nat) (hj : (cellsD m (.slice ao L cap)).setIfInBounds j u = cellsD m' (.slice ao' L' cap')) (hv : Rd W (.slice ao' L' cap') m'.inputs) : Duo B m' ao' L' cap' W0 (W.setCell ⟨B + 1, j, none⟩ u) := by
  have hlt : B + 1 < W.heap.size := (Array.getElem?_eq_some_iff.1 h.dg).1
  have ho := Only.setCell W (B + 1) j u
  refine ⟨?_, ?_, h.dg.rd (by intro k x; simp) hv ho, h.below.trans (ho.below (by omega) (by omega)), Nat.le_trans h.le ho.size⟩
  · have := ho.block B (by omega) (by omega); unfold Box; rw [this]; exact h.res
  · unfold Box
    rw [heap_setCell_same W (B + 1) j _ _ _ h.dg, hj]
theorem Duo.fin (h : Duo B m ao L cap W0 W) (m2 : Dg) (ao2 : Option Addr) (L2 cap2 : Nat) (hv : Rd W (.slice ao2 L2 cap2) m2.inputs) :
    Box (stored W B m2 (.slice ao2 L2 cap2)) B m2 (.slice ao2 L2 cap2) ∧ Rd (stored W B m2 (.slice ao2 L2 cap2)) (.slice ao2 L2 cap2) m2.inputs ∧ Below B W0 (stored W B m2 (.slice ao2 L2 cap2)) := by
  have h1 := set7 h.res m2 (.slice ao2 L2 cap2)
  have h2 := only7 W B m2 (.slice ao2 L2 cap2)
  exact ⟨h1, h.res.rd (by intro k x; simp) hv h2, h.below.trans (h2.below (Nat.le_refl _) h.le)⟩
theorem Duo.drawn (h : Duo B m ao L cap W0 W) (m2 : Dg) (ao2 : Option Addr) (L2 cap2 : Nat) (hv : Rd W (.slice ao2 L2 cap2) m2.inputs) :
    Box (stored W B m2 (.slice ao2 L2 cap2)).drew B m2 (.slice ao2 L2 cap2) ∧ Rd (stored W B m2 (.slice ao2 L2 cap2)).drew (.slice ao2 L2 cap2) m2.inputs ∧ Below B W0 (stored W B m2 (.slice ao2 L2 cap2)).drew := by
  obtain ⟨h1, h2, h3⟩ := h.fin m2 ao2 L2 cap2 hv
  generalize stored W B m2 (.slice ao2 L2 cap2) = F at h1 h2 h3
  have hd : Below F.heap.size F F.drew := bdrew1 (Below.refl _ _)
  exact ⟨h1.below hd, h2.below hd, bdrew1 h3⟩
end
theorem Duo.new (w : World) (m : Dg) (hm : m.inputs = []) (o : Obj) : Duo w.heap.size m none 0 0 w (((w.alloc (.cells (cellsD zeroD (.slice none 0 0)) 26)).alloc (.cells (cellsD m (.slice none 0 0)) 26)).alloc o) := by
  have h0 := Box.new w zeroD (.slice none 0 0)
  have h1 := Box.new (w.alloc (.cells (cellsD zeroD (.slice none 0 0)) 26)) m (.slice none 0 0)
  have e1 : (w.alloc (.cells (cellsD zeroD (.slice none 0 0)) 26)).heap.size = w.heap.size + 1 := by simp
  rw [e1] at h1
  refine ⟨(h0.below (box_below _ _)).below (box_below _ _), h1.below (box_below _ _), by rw [hm]; exact Rd.nil _, ?_, ?_⟩
  · exact bt (bt (box_below _ _) (box_below _ _)) (box_below _ _)
  · simp; omega

theorem number_m (T : ByteArray) (x : Nat) (w : World) (hs : T.size ≤ 4) (hx : val T.data.toList 0 = x) :
    Calls Try.prog 51 #[.string T] w fun e w' => e = .returned (.int .u64 (x : Int)) ∧ w = w' := by
  subst hx
  exact number_c T w hs
theorem piece_list (s : ByteArray) (i j : Nat) : ((s.extract 2 s.size).extract i j).data.toList = ((s.data.toList.drop 2).drop i).take (j - i) := by
  rw [← ByteArray.toList_eq, Lib.extract_toList, tail_list]
theorem piece_size (s : ByteArray) (i j : Nat) : ((s.extract 2 s.size).extract i j).size ≤ j - i := by rw [ByteArray.size_extract]; omega
theorem piece_tsize (s : ByteArray) (i : Nat) : ((s.extract 2 s.size).extract i (s.size - 2)).size ≤ s.size := by rw [ByteArray.size_extract, ByteArray.size_extract]; omega
theorem piece_tail (s : ByteArray) (i : Nat) : ((s.extract 2 s.size).extract i (s.size - 2)).data.toList = (s.data.toList.drop 2).drop i := by
  rw [show s.size - 2 = (s.extract 2 s.size).size by rw [ByteArray.size_extract]; omega, tail_list, tail_list]

set_option maxRecDepth 100000 in
set_option maxHeartbeats 4000000 in
theorem fields_k3 (s : ByteArray) (w : World) (hs : s.size ≤ 1073741824) (h2 : ¬ s.size < 2) (h80 : ((s[0].toNat : Int) != 80) = false) (hk : (s[1].toNat : Int) = 3) (hl : 7 ≤ s.size) (he : (readR ((s.data.toList.drop 2).drop 4)).2.2 = 0) :
    Calls Try.prog 35 #[.string s] w fun e w' => ∃ v m, e = .returned (.tuple #[v, .bool (rightB m)]) ∧ Holds w' v m ∧ Below w.heap.size w w' ∧ m = (parseD 3 (s.data.toList.drop 2)).1 := by
  have hrl : (s.data.toList.drop 2).length = s.size - 2 := by rw [List.length_drop, ← Lib.size_eq]
  have hp := parse_in 3 (s.data.toList.drop 2) (by omega)
  obtain ⟨x1, hx1, hb1⟩ : ∃ x : Nat, Hid (x = gotN 2 (s.data.toList.drop 2)) ∧ x < 65536 := ⟨_, hid rfl, got2_bd _⟩
  have HN1 := hid (fun W => number_m ((s.extract 2 s.size).extract 0 2) x1 W (by have := piece_size s 0 2; omega) (by rw [piece_list, hx1.out]; unfold gotN; rw [if_neg (by omega)]; rfl))
  obtain ⟨x2, hx2, hb2⟩ : ∃ x : Nat, Hid (x = gotN 2 (leftN 2 (s.data.toList.drop 2))) ∧ x < 65536 := ⟨_, hid rfl, got2_bd _⟩
  have hl1 : leftN 2 (s.data.toList.drop 2) = (s.data.toList.drop 2).drop 2 := by unfold leftN; rw [if_neg (by omega)]
  have hl2 : leftN 2 (leftN 2 (s.data.toList.drop 2)) = (s.data.toList.drop 2).drop 4 := by rw [hl1]; unfold leftN; rw [if_neg (by rw [List.length_drop]; omega), List.drop_drop]
  have HN2 := hid (fun W => number_m ((s.extract 2 s.size).extract 2 4) x2 W (by have := piece_size s 2 4; omega) (by rw [piece_list, hx2.out, hl1]; unfold gotN; rw [if_neg (by rw [List.length_drop]; omega)]))
  have HRd := hid (fun W => rreadRun_c ((s.extract 2 s.size).extract 4 (s.size - 2)) W (by have := piece_tsize s 4; omega))
  rw [piece_tail] at HRd
  have HP : Hid (⟨3, 0, x1, x2, (readR ((s.data.toList.drop 2).drop 4)).1, 0, 0⟩ = (parseD 3 (s.data.toList.drop 2)).1) := by
    show _ = _
    rw [hx1.out, hx2.out, ← hl2]
    rfl
  unfold Pk.Told at HRd
  generalize readR ((s.data.toList.drop 2).drop 4) = r at HRd he HP
  obtain ⟨l, nb, c⟩ := r
  dsimp only at he HP HRd
  subst he
  have HI : Hid (InD ⟨3, 0, x1, x2, l, 0, 0⟩) := by
    show InD _
    rw [HP.out]; exact hp
  have HD := hid (Duo.new w ⟨3, 0, x1, x2, [], 0, 0⟩ rfl (.cells #[.int .i64 0, .int .i64 4, .int .i64 4, .int .i64 5, .int .i64 6, .int .i64 2, .int .i64 3, .int .i64 0] 3))
  have hsl : ∀ W : World, (Instr.slice 9 (.string (s.extract 2 s.size)) (some (.int .i64 2)) (some (.int .i64 4)) none).run Try.prog W = .ok (.string ((s.extract 2 s.size).extract 2 4)) W := fun W => run_slice_string W _ _ .i64 .i64 2 4 Try.underlying9 (by omega) (by omega) (by rw [ByteArray.size_extract]; omega)
  clear hp hrl hl1 hl2
  go_enter Try.func35, Try.ntmps35
  go_wp2_with (first
    | (go_at_call 51; ((with_reducible refine (HN1.out _).mono ?_); rintro e w' ⟨rfl, rfl⟩))
    | (go_at_call 51; ((with_reducible refine (HN2.out _).mono ?_); rintro e w' ⟨rfl, rfl⟩))
    | (go_at_call 52; ((with_reducible refine (HRd.out _).mono ?_); rintro e y ⟨v, rfl, hv, hy⟩; have HD2 := hid (HD.out.grow hy); have HV := hid hv; obtain ⟨ao, L, cap, rfl, _, _, _, _⟩ := hv; have hQ := hid (HD2.out.put 4 (.slice ao L cap) ⟨3, 0, x1, x2, l, 0, 0⟩ ao L cap rfl HV.out); clear hy; obtain ⟨c0, c1, c2, c3, c4, c5, c6⟩ := HD2.out.dg.cells; have f0 := HD2.out.dg.frozen; obtain ⟨d0, d1, d2, d3, d4, d5, d6⟩ := hQ.out.dg.cells; obtain ⟨z0, z1, z2, z3, z4, z5, z6⟩ := hQ.out.res.cells; have f1 := hQ.out.res.frozen)))
  have HR := hid (fun W (hr : Rd W (.slice ao L cap) l) => rright_c ⟨3, 0, x1, x2, l, 0, 0⟩ ao L cap W hr)
  generalize hok : rightB ⟨3, 0, x1, x2, l, 0, 0⟩ = ok at HR
  have HOK := hid hok
  clear hok
  have hQ3 := hid (hQ.out.grow (box_below _ (.cells (cellsD ⟨3, 0, x1, x2, l, 0, 0⟩ (.slice ao L cap)) 26)))
  obtain ⟨q0, q1, q2, q3, q4, q5, q6⟩ := hQ3.out.res.cells
  have f3 := hQ3.out.res.frozen
  obtain ⟨p0, p1, p2, p3, p4, p5, p6⟩ := hQ3.out.dg.cells
  have hF := hQ3.out.drawn ⟨3, 0, x1, x2, l, 0, 0⟩ ao L cap hQ3.out.vr
  have HF := hid hF.1.cells
  have HV2 := hid hF.2.1
  have HB2 := hid hF.2.2
  clear hF
  go_region_with (first | (go_at_call 10; refine (HR.out _ (by first | exact hQ.out.vr | exact hQ.out.vr.below (bdrew1 (Below.refl _ _)))).mono ?_; rintro e w' ⟨rfl, rfl⟩))
  all_goals
    go_wp2_with fail
    refine bodyPost_ret (results_msg rfl _ _ w.heap.size rfl _ _ _ _ _ _ _ HF.out.1 HF.out.2.1 HF.out.2.2.1 HF.out.2.2.2.1 HF.out.2.2.2.2.1 HF.out.2.2.2.2.2.1 HF.out.2.2.2.2.2.2) rfl ?_
    exact ⟨.agg (cellsD ⟨3, 0, x1, x2, l, 0, 0⟩ (.slice ao L cap)), ⟨3, 0, x1, x2, l, 0, 0⟩, by rw [HOK.out]; rfl, ⟨ao, L, cap, rfl, HV2.out, HI.out⟩, HB2.out, HP.out⟩
end Go.Proofs.Ytnjmmmclelmeiaa.Wr
