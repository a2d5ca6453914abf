/- The law ShapeNear answers true (layer 10, shape). -/
import Derived.Test.YtphbfllhlhninaaShF
namespace Go.Proofs.Ytphbfllhlhninaa.Sh
open Go.RowKit Go.Proofs.Ytphbfllhlhninaa.Fx Go.Proofs.Ytphbfllhlhninaa.Tg
set_option linter.unusedVariables false

theorem within_bd (x y : Int) (h : withinB x y = true) : x < 1073741824 ∧ -1073741824 < x ∧ y < 1073741824 ∧ -1073741824 < y := by simpa [withinB] using h
theorem sat_mono (n m : Int) (h : n ≤ m) : satI n ≤ satI m := by
  unfold satI
  repeat' split
  all_goals omega
theorem sqs_neg (x y : Int) : sqsI (-x) (-y) = sqsI x y := by unfold sqsI; rw [Int.neg_mul_neg, Int.neg_mul_neg]
theorem touch_swap (a b r c d s : Int) (h : withinB a b = true) (k : withinB c d = true) : touchB c d s a b r = touchB a b r c d s := by
  have h1 := within_bd a b h
  have h2 := within_bd c d k
  unfold touchB nearB
  rw [sat_id (a - c) (by omega), sat_id (b - d) (by omega), sat_id (c - a) (by omega), sat_id (d - b) (by omega), show a - c = -(c - a) by omega, show b - d = -(d - b) by omega, sqs_neg, show s + r = r + s by omega]
theorem touch_more (a b r c d s m : Int) (hr : 0 ≤ r) (hs : 0 ≤ s) (hm : 0 ≤ m) (h : touchB a b r c d s = true) : touchB a b (satI (r + m)) c d s = true := by
  unfold touchB nearB at h ⊢
  simp only [Bool.and_eq_true, decide_eq_true_eq] at h ⊢
  have h1 : r ≤ satI (r + m) ∨ 2147483647 ≤ satI (r + m) := by unfold satI; split <;> (try split) <;> omega
  have h2 : satI (r + s) ≤ satI (satI (r + m) + s) := by
    rcases h1 with h1 | h1
    · exact sat_mono _ _ (by omega)
    · have e : satI (satI (r + m) + s) = 2147483647 := by
        have := (sat_bd (r + m)).2
        have e2 : satI (r + m) = 2147483647 := by omega
        rw [e2]
        unfold satI; split <;> (try split) <;> omega
      rw [e]; exact (sat_bd _).2
  exact ⟨by omega, Int.le_trans h.2 (sq_le _ _ h.1 h2)⟩

theorem takeW {P : Program} {ops : Array Oper} {Q : Exit → Act → World → Prop} {md : Region.Mode} {S : World → Prop} {i d : Nat} {oi : Oper} {v : Value} {fuel : Nat} {listed : Array Bool} {a : Act} {w : World} (hi : ops[i]? = some oi) (hd : oi.dst = some d)
    (hs : Region.noSelect ops = true) (hf : Region.free md ops listed i = true) (hr : (Region.ready md ops listed).contains i = true)
    (hQ : ∀ c a w, Q (.panic c) (a.put oi.dst v) w → Q (.panic c) a w) (hw : Region.wanted oi (yielded ops a.tmps) = true) (hy : ∀ w, S w → (execOp a.eval oi).run P w = .ok (.value v) w) (hS : S w)
    (h : wpAnyH P md ops Q S fuel (listed.setIfInBounds i true) (a.put (some d) v) w) : wpAnyH P md ops Q S (fuel + 1) listed a w :=
  wpAnyH_take hi hs hf hr hQ (.inl ⟨hw, hy⟩) hS (by rw [hd]; exact h)
theorem skipW {P : Program} {ops : Array Oper} {Q : Exit → Act → World → Prop} {md : Region.Mode} {S : World → Prop} {i d : Nat} {oi : Oper} {fuel : Nat} {listed : Array Bool} {a : Act} {w : World} (hi : ops[i]? = some oi) (hd : oi.dst = some d)
    (hs : Region.noSelect ops = true) (hf : Region.free md ops listed i = true) (hr : (Region.ready md ops listed).contains i = true)
    (hQ : ∀ c a w, Q (.panic c) (a.put oi.dst undef) w → Q (.panic c) a w) (hw : Region.wanted oi (yielded ops a.tmps) = false) (hS : S w)
    (h : wpAnyH P md ops Q S fuel (listed.setIfInBounds i true) (a.put (some d) undef) w) : wpAnyH P md ops Q S (fuel + 1) listed a w :=
  wpAnyH_take hi hs hf hr hQ (.inr ⟨hw, rfl⟩) hS (by rw [hd]; exact h)

theorem near_out (a b c d r s m : Int) (w : World) (h : r < 0 ∨ (0 ≤ r ∧ s < 0) ∨ (0 ≤ r ∧ 0 ≤ s ∧ withinB a b = false) ∨ (0 ≤ r ∧ 0 ≤ s ∧ withinB a b = true ∧ withinB c d = false)) :
    Calls Try.prog 6 #[vec a b, vec c d, .int .i32 r, .int .i32 s, .int .u16 m] w fun e w' => e = .returned (.bool true) ∧ Below w.heap.size w w' := by
  have hF := hid (duo_new w a b c d)
  rcases h with h | ⟨h, h'⟩ | ⟨h, h', k⟩ | ⟨h, h', k, k'⟩
  · go_enter Try.func6, Try.ntmps6
    go_wp2_with (go_at_call 7; ((with_reducible refine (awake_c _).mono ?_); rintro e y0 ⟨rfl, h0⟩; have hG := hid (hF.out.below h0); clear h0; obtain ⟨a0, a1, a2, a3⟩ := hG.out.cells))
    go_ret
    exact ⟨rfl, hG.out.old⟩
  · go_enter Try.func6, Try.ntmps6
    go_wp2_with (go_at_call 7; ((with_reducible refine (awake_c _).mono ?_); rintro e y0 ⟨rfl, h0⟩; have hG := hid (hF.out.below h0); clear h0; obtain ⟨a0, a1, a2, a3⟩ := hG.out.cells))
    go_ret
    exact ⟨rfl, hG.out.old⟩
  · go_enter Try.func6, Try.ntmps6
    go_wp2_with (first
      | (go_at_call 7; ((with_reducible refine (awake_c _).mono ?_); rintro e y0 ⟨rfl, h0⟩; have hG := hid (hF.out.below h0); clear h0; obtain ⟨a0, a1, a2, a3⟩ := hG.out.cells))
      | (go_at_call 27; ((with_reducible refine (within_c _ _ _).mono ?_); rintro e y1 ⟨rfl, h1⟩; rw [k]; have hH := hid (hG.out.below h1); clear h1)))
    go_ret
    exact ⟨rfl, hH.out.old⟩
  · go_enter Try.func6, Try.ntmps6
    go_wp2_with (first
      | (go_at_call 7; ((with_reducible refine (awake_c _).mono ?_); rintro e y0 ⟨rfl, h0⟩; have hG := hid (hF.out.below h0); clear h0; obtain ⟨a0, a1, a2, a3⟩ := hG.out.cells))
      | (go_at_call 27; ((with_reducible refine (within_c a b _).mono ?_); rintro e y1 ⟨rfl, h1⟩; rw [k]; have hH := hid (hG.out.below h1); clear h1; obtain ⟨b0, b1, b2, b3⟩ := hH.out.cells))
      | (go_at_call 27; ((with_reducible refine (within_c c d _).mono ?_); rintro e y2 ⟨rfl, h2⟩; rw [k']; have hI := hid (hH.out.below h2); clear h2)))
    go_ret
    exact ⟨rfl, hI.out.old⟩

set_option maxRecDepth 100000 in
set_option maxHeartbeats 1000000 in
theorem near_in (a b c d r s m : Int) (ha : In32 a) (hb : In32 b) (hc : In32 c) (hd : In32 d) (hr : In32 r) (hs : In32 s) (hm : 0 ≤ m ∧ m ≤ 65535) (h : 0 ≤ r) (h' : 0 ≤ s) (k : withinB a b = true) (k' : withinB c d = true) (w : World) :
    Calls Try.prog 6 #[vec a b, vec c d, .int .i32 r, .int .i32 s, .int .u16 m] w fun e w' => e = .returned (.bool true) ∧ Below w.heap.size w w' := by
  have hF := hid (duo_new w a b c d)
  have E1 := hid (touch_swap a b r c d s k k')
  have hm2 : In32 m := by omega
  have g1 : IntKind.i32.wrap m = m := by rw [IntKind.wrap_i32]; omega
  by_cases T : touchB a b r c d s = true
  · have E2 := hid (touch_more a b r c d s m h h' hm.1 T)
    go_enter Try.func6, Try.ntmps6
    go_upto_region 6 with (first
      | (go_at_call 7; ((with_reducible refine (awake_c _).mono ?_); rintro e y0 ⟨rfl, h0⟩; have hG := hid (hF.out.below h0); clear h0; obtain ⟨a0, a1, a2, a3⟩ := hG.out.cells))
      | (go_at_call 27; ((with_reducible refine (within_c a b _).mono ?_); rintro e y1 ⟨rfl, h1⟩; rw [k]; have hH := hid (hG.out.below h1); clear h1; obtain ⟨b0, b1, b2, b3⟩ := hH.out.cells))
      | (go_at_call 27; ((with_reducible refine (within_c c d _).mono ?_); rintro e y2 ⟨rfl, h2⟩; rw [k']; have hI := hid (hH.out.below h2); clear h2; obtain ⟨c0, c1, c2, c3⟩ := hI.out.cells))
      | (go_at_call 21; ((with_reducible refine (touch_c _ _ _ _ _ _ ha hb hr hc hd hs _).mono ?_); rintro e y3 ⟨rfl, h3⟩; rw [T]; have hJ := hid (hI.out.below h3); clear h3)))
    clear a0 a1 a2 a3 b0 b1 b2 b3 c0 c1 c2 c3
    have S0 := hJ.out.cells
    have S0' := hJ.out.drew.cells
    have HD := hid (fun W (h : Below y3.heap.size y3 W) => hJ.out.below h)
    go_region_held3 (fun W => W.cell? ⟨w.heap.size, 0, none⟩ = some (.int .i32 a) ∧ W.cell? ⟨w.heap.size, 1, none⟩ = some (.int .i32 b) ∧ W.cell? ⟨w.heap.size + 1, 0, none⟩ = some (.int .i32 c) ∧ W.cell? ⟨w.heap.size + 1, 1, none⟩ = some (.int .i32 d)) (first | with_reducible assumption | go_keep)
      (first
      | (go_at_call 21; ((with_reducible refine (touch_c c d s a b r hc hd hs ha hb hr _).mono ?_); rintro e y4 ⟨rfl, h4⟩; rw [E1.out, T]; have B4 := hid (show Below y3.heap.size y3 y4 by first | exact h4 | exact bt (bd1 (br _)) h4); clear h4; have S4 := (HD.out _ B4.out).cells))
      | (go_at_call 28; ((with_reducible refine (radd_c r m hr hm2 _).mono ?_); rintro e y5 ⟨rfl, rfl⟩))
      | (go_at_call 21; ((with_reducible refine (touch_c a b _ c d s ha hb (sat_bd _) hc hd hs _).mono ?_); rintro e y6 ⟨rfl, h6⟩; rw [E2.out]; have B6 := hid (bt B4.out h6); clear h6; have S6 := (HD.out _ B6.out).cells)))
    all_goals
      go_wp2_with fail
      go_ret
      exact ⟨rfl, bt hJ.out.old B6.out⟩
  · have T' : touchB a b r c d s = false := by simpa using T
    go_enter Try.func6, Try.ntmps6
    go_upto_region 6 with (first
      | (go_at_call 7; ((with_reducible refine (awake_c _).mono ?_); rintro e y0 ⟨rfl, h0⟩; have hG := hid (hF.out.below h0); clear h0; obtain ⟨a0, a1, a2, a3⟩ := hG.out.cells))
      | (go_at_call 27; ((with_reducible refine (within_c a b _).mono ?_); rintro e y1 ⟨rfl, h1⟩; rw [k]; have hH := hid (hG.out.below h1); clear h1; obtain ⟨b0, b1, b2, b3⟩ := hH.out.cells))
      | (go_at_call 27; ((with_reducible refine (within_c c d _).mono ?_); rintro e y2 ⟨rfl, h2⟩; rw [k']; have hI := hid (hH.out.below h2); clear h2; obtain ⟨c0, c1, c2, c3⟩ := hI.out.cells))
      | (go_at_call 21; ((with_reducible refine (touch_c _ _ _ _ _ _ ha hb hr hc hd hs _).mono ?_); rintro e y3 ⟨rfl, h3⟩; rw [T']; have hJ := hid (hI.out.below h3); clear h3)))
    clear a0 a1 a2 a3 b0 b1 b2 b3 c0 c1 c2 c3
    have S0 := hJ.out.cells
    have S0' := hJ.out.drew.cells
    have HD := hid (fun W (h : Below y3.heap.size y3 W) => hJ.out.below h)
    refine wp_region_noPanic ?_
    refine wp_region_held_drew (S := (fun W => W.cell? ⟨w.heap.size, 0, none⟩ = some (.int .i32 a) ∧ W.cell? ⟨w.heap.size, 1, none⟩ = some (.int .i32 b) ∧ W.cell? ⟨w.heap.size + 1, 0, none⟩ = some (.int .i32 c) ∧ W.cell? ⟨w.heap.size + 1, 1, none⟩ = some (.int .i32 d))) (by kernel_rfl) S0 (fun hHeld => ?_)
    (refine takeW (i := 0) (d := 35) (v := ?_) rfl rfl (by kernel_rfl) (by kernel_rfl) (by kernel_rfl) (fun _ _ _ h => h) (by rfl) ?_ (by assumption) ?_)
    rotate_left
    · (intro W hSW; (try dsimp only at hSW); go_simp; (try with_reducible rfl))
    simp only [Act.put, List.setIfInBounds_toArray, List.set_cons_zero, List.set_cons_succ]
    (refine takeW (i := 1) (d := 36) (v := ?_) rfl rfl (by kernel_rfl) (by kernel_rfl) (by kernel_rfl) (fun _ _ _ h => h) (by rfl) ?_ (by assumption) ?_)
    rotate_left
    · (intro W hSW; (try dsimp only at hSW); go_simp; (try with_reducible rfl))
    simp only [Act.put, List.setIfInBounds_toArray, List.set_cons_zero, List.set_cons_succ]
    (refine takeW (i := 2) (d := 37) (v := ?_) rfl rfl (by kernel_rfl) (by kernel_rfl) (by kernel_rfl) (fun _ _ _ h => h) (by rfl) ?_ (by assumption) ?_)
    rotate_left
    · (intro W hSW; (try dsimp only at hSW); go_simp; (try with_reducible rfl))
    simp only [Act.put, List.setIfInBounds_toArray, List.set_cons_zero, List.set_cons_succ]
    (refine takeW (i := 3) (d := 38) (v := ?_) rfl rfl (by kernel_rfl) (by kernel_rfl) (by kernel_rfl) (fun _ _ _ h => h) (by rfl) ?_ (by assumption) ?_)
    rotate_left
    · (intro W hSW; (try dsimp only at hSW); go_simp; (try with_reducible rfl))
    simp only [Act.put, List.setIfInBounds_toArray, List.set_cons_zero, List.set_cons_succ]
    (refine takeW (i := 4) (d := 39) (v := ?_) rfl rfl (by kernel_rfl) (by kernel_rfl) (by kernel_rfl) (fun _ _ _ h => h) (by rfl) ?_ (by assumption) ?_)
    rotate_left
    · (intro W hSW; (try dsimp only at hSW); go_simp; (try with_reducible rfl))
    simp only [Act.put, List.setIfInBounds_toArray, List.set_cons_zero, List.set_cons_succ]
    refine wpAnyH_ready (rs := [5]) (by kernel_rfl) (by simp) ?_
    refine AllReadyH.cons (i := 5) rfl (fun K hK => ?_) AllReadyH.nil
    go_simp
    ((refine (touch_c c d s a b r hc hd hs ha hb hr _).mono ?_); rintro e y4 ⟨rfl, h4⟩; rw [E1.out, T']; have B4 := hid (bt (bd1 (br y3)) h4); clear h4; have S4 := (HD.out _ B4.out).cells)
    dsimp only
    refine hK.out _ _ S4 (fun hHeld => ?_)
    clear hK K
    (try simp only [Act.put, List.setIfInBounds_toArray, List.set_cons_zero, List.set_cons_succ])
    (refine takeW (i := 6) (d := 41) (v := ?_) rfl rfl (by kernel_rfl) (by kernel_rfl) (by kernel_rfl) (fun _ _ _ h => h) (by rfl) ?_ (by assumption) ?_)
    rotate_left
    · (intro W hSW; (try dsimp only at hSW); go_simp; (try with_reducible rfl))
    simp only [Act.put, List.setIfInBounds_toArray, List.set_cons_zero, List.set_cons_succ]
    (refine takeW (i := 7) (d := 42) (v := ?_) rfl rfl (by kernel_rfl) (by kernel_rfl) (by kernel_rfl) (fun _ _ _ h => h) (by rfl) ?_ (by assumption) ?_)
    rotate_left
    · (intro W hSW; (try dsimp only at hSW); go_simp; (try with_reducible rfl))
    simp only [Act.put, List.setIfInBounds_toArray, List.set_cons_zero, List.set_cons_succ]
    (refine takeW (i := 8) (d := 43) (v := ?_) rfl rfl (by kernel_rfl) (by kernel_rfl) (by kernel_rfl) (fun _ _ _ h => h) (by rfl) ?_ (by assumption) ?_)
    rotate_left
    · (intro W hSW; (try dsimp only at hSW); go_simp; (try with_reducible rfl))
    simp only [Act.put, List.setIfInBounds_toArray, List.set_cons_zero, List.set_cons_succ]
    (refine takeW (i := 9) (d := 44) (v := ?_) rfl rfl (by kernel_rfl) (by kernel_rfl) (by kernel_rfl) (fun _ _ _ h => h) (by rfl) ?_ (by assumption) ?_)
    rotate_left
    · (intro W hSW; (try dsimp only at hSW); go_simp; (try with_reducible rfl))
    simp only [Act.put, List.setIfInBounds_toArray, List.set_cons_zero, List.set_cons_succ]
    (refine takeW (i := 10) (d := 45) (v := ?_) rfl rfl (by kernel_rfl) (by kernel_rfl) (by kernel_rfl) (fun _ _ _ h => h) (by rfl) ?_ (by assumption) ?_)
    rotate_left
    · (intro W hSW; (try dsimp only at hSW); go_simp; (try with_reducible rfl))
    simp only [Act.put, List.setIfInBounds_toArray, List.set_cons_zero, List.set_cons_succ]
    refine skipW (i := 11) (d := 46) rfl rfl (by kernel_rfl) (by kernel_rfl) (by kernel_rfl) (fun _ _ _ h => h) (by rfl) (by assumption) ?_
    simp only [Act.put, List.setIfInBounds_toArray, List.set_cons_zero, List.set_cons_succ]
    refine skipW (i := 12) (d := 47) rfl rfl (by kernel_rfl) (by kernel_rfl) (by kernel_rfl) (fun _ _ _ h => h) (by rfl) (by assumption) ?_
    simp only [Act.put, List.setIfInBounds_toArray, List.set_cons_zero, List.set_cons_succ]
    refine skipW (i := 13) (d := 48) rfl rfl (by kernel_rfl) (by kernel_rfl) (by kernel_rfl) (fun _ _ _ h => h) (by rfl) (by assumption) ?_
    simp only [Act.put, List.setIfInBounds_toArray, List.set_cons_zero, List.set_cons_succ]
    refine skipW (i := 14) (d := 49) rfl rfl (by kernel_rfl) (by kernel_rfl) (by kernel_rfl) (fun _ _ _ h => h) (by rfl) (by assumption) ?_
    simp only [Act.put, List.setIfInBounds_toArray, List.set_cons_zero, List.set_cons_succ]
    refine skipW (i := 15) (d := 50) rfl rfl (by kernel_rfl) (by kernel_rfl) (by kernel_rfl) (fun _ _ _ h => h) (by rfl) (by assumption) ?_
    simp only [Act.put, List.setIfInBounds_toArray, List.set_cons_zero, List.set_cons_succ]
    refine skipW (i := 16) (d := 51) rfl rfl (by kernel_rfl) (by kernel_rfl) (by kernel_rfl) (fun _ _ _ h => h) (by rfl) (by assumption) ?_
    simp only [Act.put, List.setIfInBounds_toArray, List.set_cons_zero, List.set_cons_succ]
    refine skipW (i := 17) (d := 52) rfl rfl (by kernel_rfl) (by kernel_rfl) (by kernel_rfl) (fun _ _ _ h => h) (by rfl) (by assumption) ?_
    simp only [Act.put, List.setIfInBounds_toArray, List.set_cons_zero, List.set_cons_succ]
    refine skipW (i := 18) (d := 53) rfl rfl (by kernel_rfl) (by kernel_rfl) (by kernel_rfl) (fun _ _ _ h => h) (by rfl) (by assumption) ?_
    simp only [Act.put, List.setIfInBounds_toArray, List.set_cons_zero, List.set_cons_succ]
    (refine takeW (i := 19) (d := 54) (v := ?_) rfl rfl (by kernel_rfl) (by kernel_rfl) (by kernel_rfl) (fun _ _ _ h => h) (by rfl) ?_ (by assumption) ?_)
    rotate_left
    · (intro W hSW; (try dsimp only at hSW); go_simp; (try with_reducible rfl))
    simp only [Act.put, List.setIfInBounds_toArray, List.set_cons_zero, List.set_cons_succ]
    (refine takeW (i := 20) (d := 55) (v := ?_) rfl rfl (by kernel_rfl) (by kernel_rfl) (by kernel_rfl) (fun _ _ _ h => h) (by rfl) ?_ (by assumption) ?_)
    rotate_left
    · (intro W hSW; (try dsimp only at hSW); go_simp; (try with_reducible rfl))
    simp only [Act.put, List.setIfInBounds_toArray, List.set_cons_zero, List.set_cons_succ]
    (refine takeW (i := 21) (d := 10) (v := ?_) rfl rfl (by kernel_rfl) (by kernel_rfl) (by kernel_rfl) (fun _ _ _ h => h) (by rfl) ?_ (by assumption) ?_)
    rotate_left
    · (intro W hSW; (try dsimp only at hSW); go_simp; (try with_reducible rfl))
    simp only [Act.put, List.setIfInBounds_toArray, List.set_cons_zero, List.set_cons_succ]
    refine wpAnyH_done (by kernel_rfl) ?_ _
    refine NoPanic.normal ?_
    go_wp2_with fail
    go_ret
    exact ⟨rfl, bt hJ.out.old B4.out⟩

theorem near_w (a b c d r s m : Int) (ha : In32 a) (hb : In32 b) (hc : In32 c) (hd : In32 d) (hr : In32 r) (hs : In32 s) (hm : 0 ≤ m ∧ m ≤ 65535) (w : World) :
    Calls Try.prog 6 #[vec a b, vec c d, .int .i32 r, .int .i32 s, .int .u16 m] w fun e w' => e = .returned (.bool true) ∧ Below w.heap.size w w' := by
  by_cases h : 0 ≤ r
  · by_cases h' : 0 ≤ s
    · cases k : withinB a b
      · exact near_out a b c d r s m w (.inr (.inr (.inl ⟨h, h', k⟩)))
      · cases k' : withinB c d
        · exact near_out a b c d r s m w (.inr (.inr (.inr ⟨h, h', k, k'⟩)))
        · exact near_in a b c d r s m ha hb hc hd hr hs hm h h' k k' w
    · exact near_out a b c d r s m w (.inr (.inl ⟨h, by omega⟩))
  · exact near_out a b c d r s m w (.inl (by omega))

end Go.Proofs.Ytphbfllhlhninaa.Sh
