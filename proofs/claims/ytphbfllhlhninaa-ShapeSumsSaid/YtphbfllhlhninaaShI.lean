/- The law ShapeSums answers true (layer 10, shape). -/
import Derived.Test.YtphbfllhlhninaaShH
import Derived.Deep.DeepCutAuto
namespace Go.Proofs.Ytphbfllhlhninaa.Sh
open Go.RowKit Go.Proofs.Ytphbfllhlhninaa.Fx Go.Proofs.Ytphbfllhlhninaa.Tg
set_option linter.unusedVariables false

theorem Tri.far4 {w W : World} {C : Nat} {p q u v a b c d : Int} (h : Tri w W p q u v a b c d) (hC : w.heap.size + 3 ≤ C) (v0 v1 v2 v3 : Value) : Tri w ((((W.setCell ⟨C, 0, none⟩ v0).setCell ⟨C, 1, none⟩ v1).setCell ⟨C, 2, none⟩ v2).setCell ⟨C, 3, none⟩ v3) p q u v a b c d :=
  ⟨h.place.far4 (by omega) _ _ _ _, h.way.far4 (by omega) _ _ _ _, h.walls.far4 (by omega) _ _ _ _, bset4 h.old (by omega) _ _ _ _⟩
theorem Tri.wall {w W : World} {p q u v a b c d : Int} (h : Tri w W p q u v a b c d) : W.cell? ⟨w.heap.size + 1 + 1, 0, none⟩ = some (.int .i32 a) ∧ W.cell? ⟨w.heap.size + 1 + 1, 1, none⟩ = some (.int .i32 b) ∧ W.cell? ⟨w.heap.size + 1 + 1, 2, none⟩ = some (.int .i32 c) ∧ W.cell? ⟨w.heap.size + 1 + 1, 3, none⟩ = some (.int .i32 d) := h.walls.four
theorem all16 {w W : World} {B C : Nat} {a b c d p q u v x0 x1 x2 x3 : Int} (hT : Tri w W a b c d p q u v) (hC : At W C #[.int .i32 x0, .int .i32 x1, .int .i32 x2, .int .i32 x3] 26) (hB : At W B #[.int .i32 x0, .int .i32 x1, .int .i32 x2, .int .i32 x3] 26) : W.cell? ⟨w.heap.size, 0, none⟩ = some (.int .i32 a) ∧ W.cell? ⟨w.heap.size, 1, none⟩ = some (.int .i32 b) ∧ W.cell? ⟨w.heap.size + 1, 0, none⟩ = some (.int .i32 c) ∧ W.cell? ⟨w.heap.size + 1, 1, none⟩ = some (.int .i32 d) ∧ W.cell? ⟨w.heap.size + 1 + 1, 0, none⟩ = some (.int .i32 p) ∧ W.cell? ⟨w.heap.size + 1 + 1, 1, none⟩ = some (.int .i32 q) ∧ W.cell? ⟨w.heap.size + 1 + 1, 2, none⟩ = some (.int .i32 u) ∧ W.cell? ⟨w.heap.size + 1 + 1, 3, none⟩ = some (.int .i32 v) ∧ W.cell? ⟨C, 0, none⟩ = some (.int .i32 x0) ∧ W.cell? ⟨C, 1, none⟩ = some (.int .i32 x1) ∧ W.cell? ⟨C, 2, none⟩ = some (.int .i32 x2) ∧ W.cell? ⟨C, 3, none⟩ = some (.int .i32 x3) ∧ W.cell? ⟨B, 0, none⟩ = some (.int .i32 x0) ∧ W.cell? ⟨B, 1, none⟩ = some (.int .i32 x1) ∧ W.cell? ⟨B, 2, none⟩ = some (.int .i32 x2) ∧ W.cell? ⟨B, 3, none⟩ = some (.int .i32 x3) :=
  ⟨hT.place.two.1, hT.place.two.2, hT.way.two.1, hT.way.two.2, hT.walls.four.1, hT.walls.four.2.1, hT.walls.four.2.2.1, hT.walls.four.2.2.2, hC.four.1, hC.four.2.1, hC.four.2.2.1, hC.four.2.2.2, hB.four.1, hB.four.2.1, hB.four.2.2.1, hB.four.2.2.2⟩
theorem shrink_ex (p q u v k : Int) (hp : In32 p) (hq : In32 q) (hu : In32 u) (hv : In32 v) (hk : In32 k) : ∃ (r : Bool) (x0 x1 x2 x3 : Int),
    Hid (rightB (satI (p + k)) (satI (q + k)) (satI (u - k)) (satI (v - k)) = r ∧ (r = true → x0 = satI (p + k) ∧ x1 = satI (q + k) ∧ x2 = satI (u - k) ∧ x3 = satI (v - k)) ∧ (r = false → x0 = p ∧ x1 = q ∧ x2 = u ∧ x3 = v)) ∧
    Hid (∀ W, Calls Try.prog 8 #[box p q u v, .int .i32 k] W fun e w' => e = .returned (.tuple #[box x0 x1 x2 x3, .bool r]) ∧ Below W.heap.size W w') := by
  cases h : rightB (satI (p + k)) (satI (q + k)) (satI (u - k)) (satI (v - k))
  · exact ⟨false, p, q, u, v, ⟨rfl, nofun, fun _ => ⟨rfl, rfl, rfl, rfl⟩⟩, fun W => shrink_no p q u v k hp hq hu hv hk h W⟩
  · exact ⟨true, _, _, _, _, ⟨rfl, fun _ => ⟨rfl, rfl, rfl, rfl⟩, nofun⟩, fun W => shrink_yes p q u v k hp hq hu hv hk h W⟩

set_option maxRecDepth 100000 in
set_option maxHeartbeats 4000000 in
theorem sums_w (a b c d k p q u v : Int) (ha : In32 a) (hb : In32 b) (hc : In32 c) (hd : In32 d) (hk : In32 k) (hp : In32 p) (hq : In32 q) (hu : In32 u) (hv : In32 v) (w : World) :
    Calls Try.prog 3 #[vec a b, vec c d, .int .i32 k, box p q u v] w fun e w' => e = .returned (.bool true) ∧ Below w.heap.size w w' := by
  have hF := hid (tri_new w a b c d p q u v)
  obtain ⟨r, x0, x1, x2, x3, HX, HS⟩ := shrink_ex p q u v k hp hq hu hv hk
  go_enter Try.func3, Try.ntmps3
  go_upto_region 4 with (first
    | (go_at_call 7; ((with_reducible refine (awake_c _).mono ?_); rintro e y0 ⟨rfl, h0⟩; have hG := hid (hF.out.below h0); clear h0; obtain ⟨a0, a1, a2, a3⟩ := hG.out.wall))
    | (go_at_call 8; ((with_reducible refine (HS.out _).mono ?_); rintro e y1 ⟨rfl, h1⟩; have hH := hid (And.intro (hG.out.below (bal h1 (.cells #[.int .i32 x0, .int .i32 x1, .int .i32 x2, .int .i32 x3] 26))) (At.new y1 #[.int .i32 x0, .int .i32 x1, .int .i32 x2, .int .i32 x3] 26)); clear h1)))
  clear a0 a1 a2 a3 hG hF HS
  generalize y1.alloc (.cells #[.int .i32 x0, .int .i32 x1, .int .i32 x2, .int .i32 x3] 26) = Z0 at hH ⊢
  generalize y1.heap.size = C at hH ⊢
  go_cut [11] (fun s11 wx => ∃ B, s11 = .pointer (some ⟨B, 0, none⟩) ∧ Tri w wx a b c d p q u v ∧ At wx C #[.int .i32 x0, .int .i32 x1, .int .i32 x2, .int .i32 x3] 26 ∧ At wx B #[.int .i32 (satI (p + k)), .int .i32 (satI (q + k)), .int .i32 (satI (u - k)), .int .i32 (satI (v - k))] 26 ∧ B ≠ C ∧ w.heap.size + 3 ≤ B)
  case first =>
    as_aux_lemma =>
      have S0 := hH.out.1.wall
      have M1 := Nat.ne_of_gt hH.out.1.walls.lt
      go_region_held3 (fun W => W.cell? ⟨w.heap.size + 1 + 1, 0, none⟩ = some (.int .i32 p) ∧ W.cell? ⟨w.heap.size + 1 + 1, 1, none⟩ = some (.int .i32 q) ∧ W.cell? ⟨w.heap.size + 1 + 1, 2, none⟩ = some (.int .i32 u) ∧ W.cell? ⟨w.heap.size + 1 + 1, 3, none⟩ = some (.int .i32 v)) (first | with_reducible assumption | go_keep)
        (first
        | (go_at_call 9; ((refine (rplus_c _ _ _ _ hp hq hk hk _).mono ?_); rintro e y2 ⟨rfl, h2⟩; have H2 := hid h2; clear h2; have hG := hid (show Tri w y2 a b c d p q u v ∧ At y2 C #[.int .i32 x0, .int .i32 x1, .int .i32 x2, .int .i32 x3] 26 from (fun (hz : Below Z0.heap.size Z0 y2) => ⟨hH.out.1.below hz, hH.out.2.below hz⟩) (by first | exact H2.out | exact bt (bd1 (br _)) H2.out | exact bt (bal (br _) _) H2.out | exact bt (bal (bd1 (br _)) _) H2.out | exact bt (bd1 (bal (br _) _)) H2.out)); have S1 := hG.out.1.wall; have N1 := Nat.ne_of_gt hG.out.1.walls.lt; try (first | have hA := hid ((At.new Z0 #[.int .i32 0, .int .i32 0, .int .i32 0, .int .i32 0] 26).below H2.out) | have hA := hid ((At.new Z0 #[.int .i32 0, .int .i32 0, .int .i32 0, .int .i32 0] 26).drew.below H2.out) | have hA := hid ((At.new Z0.drew #[.int .i32 0, .int .i32 0, .int .i32 0, .int .i32 0] 26).below H2.out))))
        | (go_at_call 10; ((refine (rless_c _ _ _ _ hu hv hk hk _).mono ?_); rintro e y3 ⟨rfl, h3⟩; have H3 := hid h3; clear h3; have hI := hid (show Tri w y3 a b c d p q u v ∧ At y3 C #[.int .i32 x0, .int .i32 x1, .int .i32 x2, .int .i32 x3] 26 from (fun (hz : Below y2.heap.size y2 y3) => ⟨hG.out.1.below hz, hG.out.2.below hz⟩) (by first | exact H3.out | exact bt (bd1 (br _)) H3.out | exact bt (bal (br _) _) H3.out | exact bt (bal (bd1 (br _)) _) H3.out | exact bt (bd1 (bal (br _) _)) H3.out)); have S2 := hI.out.1.wall; try (first | have hA2 := hid (hA.out.below H3.out) | have hA2 := hid ((At.new y2 #[.int .i32 0, .int .i32 0, .int .i32 0, .int .i32 0] 26).below H3.out)); try (obtain ⟨z0, z1, z2, z3⟩ := hA2.out.four; have fz := hA2.out.frozen; have L := hA2.out.lt))))
      · go_wp2_with fail
        go_meet
        case rel => exact ⟨y3.heap.size, rfl, hI.out.1.below (bal (br _) _), hI.out.2.more _, At.new _ _ _, Nat.ne_of_gt hI.out.2.lt, hI.out.1.walls.lt⟩
      · go_wp2_with fail
        go_meet
        case rel => exact ⟨y2.heap.size, rfl, hI.out.1.far4 hG.out.1.walls.lt _ _ _ _, hI.out.2.far4 (Nat.ne_of_lt hG.out.2.lt) _ _ _ _, hA2.out.put4 _ _ _ _, Nat.ne_of_gt hG.out.2.lt, hG.out.1.walls.lt⟩
      · go_wp2_with fail
        go_meet
        case rel => exact ⟨Z0.heap.size, rfl, hI.out.1.far4 hH.out.1.walls.lt _ _ _ _, hI.out.2.far4 (Nat.ne_of_lt hH.out.2.lt) _ _ _ _, hA2.out.put4 _ _ _ _, Nat.ne_of_gt hH.out.2.lt, hH.out.1.walls.lt⟩

  case rest =>
    obtain ⟨B, rfl, hT, hC, hB, hne, hfar⟩ := hcut
    have HT := hid (And.intro hT (And.intro hC hB))
    clear hT hC hB hH
    obtain ⟨b0, b1, b2, b3⟩ := HT.out.2.2.four
    go_upto_if 37 with (go_at_call 11; ((with_reducible refine (rright_c _ _ _ _ _).mono ?_); rintro e y4 ⟨rfl, h4⟩; rw [HX.out.1]; have HU := hid (And.intro (HT.out.1.below h4) (And.intro (HT.out.2.1.below h4) (HT.out.2.2.below h4))); clear h4))
    clear b0 b1 b2 b3 HT
    go_cut [12] (fun s12 wx => s12 = .bool r ∧ Tri w wx a b c d p q u v ∧ At wx C #[.int .i32 x0, .int .i32 x1, .int .i32 x2, .int .i32 x3] 26 ∧ At wx B #[.int .i32 x0, .int .i32 x1, .int .i32 x2, .int .i32 x3] 26)
    case first =>
      as_aux_lemma =>
        cases r
        · obtain ⟨rfl, rfl, rfl, rfl⟩ := HX.out.2.2 rfl
          obtain ⟨b0, b1, b2, b3⟩ := HU.out.2.2.four
          obtain ⟨a0, a1, a2, a3⟩ := HU.out.1.wall
          have fz := HU.out.2.2.frozen
          go_wp2_with fail
          go_meet
          case rel => exact ⟨rfl, HU.out.1.far4 hfar _ _ _ _, HU.out.2.1.far4 (Ne.symm hne) _ _ _ _, HU.out.2.2.put4 _ _ _ _⟩
        · obtain ⟨rfl, rfl, rfl, rfl⟩ := HX.out.2.1 rfl
          go_wp2_with fail
          go_meet
          case rel => exact ⟨rfl, HU.out.1, HU.out.2.1, HU.out.2.2⟩
    case rest =>
      obtain ⟨rfl, hT, hC, hB⟩ := hcut
      have HV : ∀ W, Below wc.heap.size wc W → W.cell? ⟨w.heap.size, 0, none⟩ = some (.int .i32 a) ∧ W.cell? ⟨w.heap.size, 1, none⟩ = some (.int .i32 b) ∧ W.cell? ⟨w.heap.size + 1, 0, none⟩ = some (.int .i32 c) ∧ W.cell? ⟨w.heap.size + 1, 1, none⟩ = some (.int .i32 d) ∧ W.cell? ⟨w.heap.size + 1 + 1, 0, none⟩ = some (.int .i32 p) ∧ W.cell? ⟨w.heap.size + 1 + 1, 1, none⟩ = some (.int .i32 q) ∧ W.cell? ⟨w.heap.size + 1 + 1, 2, none⟩ = some (.int .i32 u) ∧ W.cell? ⟨w.heap.size + 1 + 1, 3, none⟩ = some (.int .i32 v) ∧ W.cell? ⟨C, 0, none⟩ = some (.int .i32 x0) ∧ W.cell? ⟨C, 1, none⟩ = some (.int .i32 x1) ∧ W.cell? ⟨C, 2, none⟩ = some (.int .i32 x2) ∧ W.cell? ⟨C, 3, none⟩ = some (.int .i32 x3) ∧ W.cell? ⟨B, 0, none⟩ = some (.int .i32 x0) ∧ W.cell? ⟨B, 1, none⟩ = some (.int .i32 x1) ∧ W.cell? ⟨B, 2, none⟩ = some (.int .i32 x2) ∧ W.cell? ⟨B, 3, none⟩ = some (.int .i32 x3) := fun W hb => all16 (hT.below hb) (hC.below hb) (hB.below hb)
      have HV := hid HV
      have HO := hid hT.old
      have S0 := HV.out wc (br _)
      clear hT hC hB HU HX
      go_upto_region 8 with (fail)
      go_region_held3 (fun W => W.cell? ⟨w.heap.size, 0, none⟩ = some (.int .i32 a) ∧ W.cell? ⟨w.heap.size, 1, none⟩ = some (.int .i32 b) ∧ W.cell? ⟨w.heap.size + 1, 0, none⟩ = some (.int .i32 c) ∧ W.cell? ⟨w.heap.size + 1, 1, none⟩ = some (.int .i32 d) ∧ W.cell? ⟨w.heap.size + 1 + 1, 0, none⟩ = some (.int .i32 p) ∧ W.cell? ⟨w.heap.size + 1 + 1, 1, none⟩ = some (.int .i32 q) ∧ W.cell? ⟨w.heap.size + 1 + 1, 2, none⟩ = some (.int .i32 u) ∧ W.cell? ⟨w.heap.size + 1 + 1, 3, none⟩ = some (.int .i32 v) ∧ W.cell? ⟨C, 0, none⟩ = some (.int .i32 x0) ∧ W.cell? ⟨C, 1, none⟩ = some (.int .i32 x1) ∧ W.cell? ⟨C, 2, none⟩ = some (.int .i32 x2) ∧ W.cell? ⟨C, 3, none⟩ = some (.int .i32 x3) ∧ W.cell? ⟨B, 0, none⟩ = some (.int .i32 x0) ∧ W.cell? ⟨B, 1, none⟩ = some (.int .i32 x1) ∧ W.cell? ⟨B, 2, none⟩ = some (.int .i32 x2) ∧ W.cell? ⟨B, 3, none⟩ = some (.int .i32 x3)) (first | with_reducible assumption | go_keep)
        (first
        | (go_at_call 12; ((with_reducible refine (vadd_c _ _ _ _ ha hb hc hd _).mono ?_); rintro e z1 ⟨rfl, g1⟩; have Q1 := hid (show Below wc.heap.size wc z1 by first | exact g1 | exact bt (bd1 (br _)) g1); clear g1; have S1 := (HV.out _ Q1.out)))
        | (go_at_call 9; ((with_reducible refine (rplus_c _ _ _ _ ha hb hc hd _).mono ?_); rintro e z2 ⟨rfl, g2⟩; have Q2 := hid (bt Q1.out g2); clear g2; have S2 := (HV.out _ Q2.out)))
        | (go_at_call 13; ((with_reducible refine (vsub_c _ _ _ _ ha hb hc hd _).mono ?_); rintro e z3 ⟨rfl, g3⟩; have Q3 := hid (bt Q2.out g3); clear g3; have S3 := (HV.out _ Q3.out)))
        | (go_at_call 10; ((with_reducible refine (rless_c _ _ _ _ ha hb hc hd _).mono ?_); rintro e z4 ⟨rfl, g4⟩; have Q4 := hid (bt Q3.out g4); clear g4; have S4 := (HV.out _ Q4.out)))
        | (go_at_call 14; ((with_reducible refine (vscale_c _ _ _ ha hb hk _).mono ?_); rintro e z5 ⟨rfl, g5⟩; have Q5 := hid (bt Q4.out g5); clear g5; have S5 := (HV.out _ Q5.out)))
        | (go_at_call 15; ((with_reducible refine (rscale_c _ _ _ ha hb hk _).mono ?_); rintro e z6 ⟨rfl, g6⟩; have Q6 := hid (bt Q5.out g6); clear g6; have S6 := (HV.out _ Q6.out)))
        | (go_at_call 16; ((with_reducible refine (right_c _ _ _ _ _).mono ?_); rintro e z7 ⟨rfl, g7⟩; have Q7 := hid (bt Q6.out g7); clear g7; have S7 := (HV.out _ Q7.out)))
        | (go_at_call 11; ((with_reducible refine (rright_c _ _ _ _ _).mono ?_); rintro e z8 ⟨rfl, g8⟩; have Q8 := hid (bt Q7.out g8); clear g8; have S8 := (HV.out _ Q8.out)))
        | (go_at_call 17; ((with_reducible refine (inside_c _ _ _ _ _ _ _).mono ?_); rintro e z9 ⟨rfl, g9⟩; have Q9 := hid (bt Q8.out g9); clear g9; have S9 := (HV.out _ Q9.out)))
        | (go_at_call 18; ((with_reducible refine (rinside_c _ _ _ _ _ _ _).mono ?_); rintro e z10 ⟨rfl, g10⟩; have Q10 := hid (bt Q9.out g10); clear g10; have S10 := (HV.out _ Q10.out))))
      go_wp2_with fail
      go_ret
      exact ⟨rfl, bt HO.out Q10.out⟩

end Go.Proofs.Ytphbfllhlhninaa.Sh
