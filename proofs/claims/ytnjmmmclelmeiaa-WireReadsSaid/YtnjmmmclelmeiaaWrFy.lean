/- What fields of the document's layer 7 (wire) returns of inputs that are none. -/
import Derived.Test.YtnjmmmclelmeiaaWrFx
namespace Go.Proofs.Ytnjmmmclelmeiaa.Wr
open Go.RowKit Go.Proofs.Ytnjmmmclelmeiaa.Fx Go.Proofs.Ytnjmmmclelmeiaa.Pk

set_option maxRecDepth 100000 in
set_option maxHeartbeats 2000000 in
theorem fields_run (s : ByteArray) (w : World) (hs : s.size ≤ 1073741824) (h2 : ¬ s.size < 2) (h80 : ((s[0].toNat : Int) != 80) = false) (hk : (s[1].toNat : Int) = 3) (hl : 7 ≤ s.size) (he : (readR ((s.data.toList.drop 2).drop 4)).2.2 ≠ 0) :
    Calls Try.prog 35 #[.string s] w (Noth w) := by
  have hrl : (s.data.toList.drop 2).length = s.size - 2 := by rw [List.length_drop, ← Lib.size_eq]
  obtain ⟨x1, hx1, hb1⟩ : ∃ x : Nat, Hid (x = gotN 2 (s.data.toList.drop 2)) ∧ x < 65536 := ⟨_, hid rfl, got2_bd _⟩
  have HN1 := hid (fun W => number_m ((s.extract 2 s.size).extract 0 2) x1 W (by have := piece_size s 0 2; omega) (by rw [piece_list, hx1.out]; unfold gotN; rw [if_neg (by omega)]; rfl))
  obtain ⟨x2, hx2, hb2⟩ : ∃ x : Nat, Hid (x = gotN 2 (leftN 2 (s.data.toList.drop 2))) ∧ x < 65536 := ⟨_, hid rfl, got2_bd _⟩
  have hl1 : leftN 2 (s.data.toList.drop 2) = (s.data.toList.drop 2).drop 2 := by unfold leftN; rw [if_neg (by omega)]
  have hl2 : leftN 2 (leftN 2 (s.data.toList.drop 2)) = (s.data.toList.drop 2).drop 4 := by rw [hl1]; unfold leftN; rw [if_neg (by rw [List.length_drop]; omega), List.drop_drop]
  have HN2 := hid (fun W => number_m ((s.extract 2 s.size).extract 2 4) x2 W (by have := piece_size s 2 4; omega) (by rw [piece_list, hx2.out, hl1]; unfold gotN; rw [if_neg (by rw [List.length_drop]; omega)]))
  have HRd := hid (fun W => rreadRun_c ((s.extract 2 s.size).extract 4 (s.size - 2)) W (by have := piece_tsize s 4; omega))
  rw [piece_tail] at HRd
  unfold Pk.Told at HRd
  generalize readR ((s.data.toList.drop 2).drop 4) = r at HRd he
  obtain ⟨l, nb, c⟩ := r
  dsimp only at he HRd
  have hc : ((c : Int) != 0) = true := by simp; omega
  have HD := hid (Duo.new w ⟨3, 0, x1, x2, [], 0, 0⟩ rfl (.cells #[.int .i64 0, .int .i64 4, .int .i64 4, .int .i64 5, .int .i64 6, .int .i64 2, .int .i64 3, .int .i64 0] 3))
  have hsl : ∀ W : World, (Instr.slice 9 (.string (s.extract 2 s.size)) (some (.int .i64 2)) (some (.int .i64 4)) none).run Try.prog W = .ok (.string ((s.extract 2 s.size).extract 2 4)) W := fun W => run_slice_string W _ _ .i64 .i64 2 4 Try.underlying9 (by omega) (by omega) (by rw [ByteArray.size_extract]; omega)
  clear he hrl hl1 hl2
  go_enter Try.func35, Try.ntmps35
  go_wp2_with (first
    | (go_at_call 51; ((with_reducible refine (HN1.out _).mono ?_); rintro e w' ⟨rfl, rfl⟩))
    | (go_at_call 51; ((with_reducible refine (HN2.out _).mono ?_); rintro e w' ⟨rfl, rfl⟩))
    | (go_at_call 52; ((with_reducible refine (HRd.out _).mono ?_); rintro e y ⟨v, rfl, hv, hy⟩; have HD2 := hid (HD.out.grow hy); clear hv hy; obtain ⟨z0, z1, z2, z3, z4, z5, z6⟩ := HD2.out.res.cells; have f1 := HD2.out.res.frozen)))
  have hF := HD2.out.fin zeroD none 0 0 (Rd.nil _)
  obtain ⟨q0, q1, q2, q3, q4, q5, q6⟩ := hF.1.cells
  refine bodyPost_ret (results_msg rfl _ _ w.heap.size rfl _ _ _ _ _ _ _ q0 q1 q2 q3 q4 q5 q6) rfl ?_
  exact ⟨rfl, hF.2.2⟩

end Go.Proofs.Ytnjmmmclelmeiaa.Wr
