/- The law RingPlays answers true: whatever is pushed, popped and taken. -/
import Derived.Test.YtfegajcjiclbdaaRgBoth
import Derived.Test.YtfegajcjiclbdaaRgActs
import Derived.Deep.RegionHeld3
import Derived.Deep.RegionWith
import Derived.Deep.DrawnRows
import Derived.Deep.LoopGhost
import Derived.Deep.DeepCutAuto
namespace Go.Proofs.Ytfegajcjiclbdaa.Rg
open Go.RowKit
set_option linter.unusedVariables false
attribute [local go_sem ↓] Go.wp_at_zero Go.wp_at_succ

set_option maxRecDepth 100000 in
theorem plays_big (size at_ : Int) (ad : Option Addr) (len cap : Nat) (w : World) (h : 40 < size ∧ size ≤ 4096) :
    Calls Try.prog 3 #[.int .i64 size, .slice ad len cap, .int .i64 at_] w fun e w' => e = .returned (.bool true) ∧ Below w.heap.size w w' := by
  obtain ⟨h1, h2⟩ := h
  have d1 : decide (40 < size) = true := by simpa using h1
  have d2 : decide (size ≤ 4096) = true := by simpa using h2
  go_enter Try.func3, Try.ntmps3
  go_wp2_with (go_at_call 7; ((with_reducible refine (awake_c _).mono ?_); rintro e w1 ⟨rfl, hB⟩))
  go_ret
  exact ⟨rfl, hB⟩

set_option maxRecDepth 100000 in
theorem plays_wrong (size at_ : Int) (ad : Option Addr) (len cap : Nat) (w : World) (h : size < 1 ∨ 4096 < size) :
    Calls Try.prog 3 #[.int .i64 size, .slice ad len cap, .int .i64 at_] w fun e w' => e = .returned (.bool true) ∧ Below w.heap.size w w' := by
  rcases h with h | h
  · have d1 : decide (40 < size) = false := by simp; omega
    have d3 : decide (size < 1) = true := by simpa using h
    go_enter Try.func3, Try.ntmps3
    go_wp2_with (first
      | (go_at_call 7; ((with_reducible refine (awake_c _).mono ?_); rintro e w1 ⟨rfl, hB⟩))
      | (go_at_call 8; ((with_reducible refine (new_no _ (by omega) _).mono ?_); rintro e w2 ⟨rfl, rfl⟩)))
    go_ret
    exact ⟨rfl, hB⟩
  · have d1 : decide (40 < size) = true := by simp; omega
    have d2 : decide (size ≤ 4096) = false := by simp; omega
    have d3 : decide (size < 1) = false := by simp; omega
    have d4 : decide (4096 < size) = true := by simpa using h
    go_enter Try.func3, Try.ntmps3
    go_wp2_with (first
      | (go_at_call 7; ((with_reducible refine (awake_c _).mono ?_); rintro e w1 ⟨rfl, hB⟩))
      | (go_at_call 8; ((with_reducible refine (new_no _ (by omega) _).mono ?_); rintro e w2 ⟨rfl, rfl⟩)))
    go_ret
    exact ⟨rfl, hB⟩

theorem take_at {P : Program} {ops : Array Oper} {Q : Exit → Act → World → Prop} {md : Region.Mode} {S : World → Prop} {i d : Nat} {oi : Oper} {v : Value} {fuel : Nat} {listed : Array Bool} {a : Act} {w : World} (hi : ops[i]? = some oi) (hd : oi.dst = some d)
    (hs : Region.noSelect ops = true) (hf : Region.free md ops listed i = true) (hr : (Region.ready md ops listed).contains i = true)
    (hQ : ∀ c a w, Q (.panic c) (a.put oi.dst v) w → Q (.panic c) a w) (hw : Region.wanted oi (yielded ops a.tmps) = true) (hy : ∀ w, S w → (execOp a.eval oi).run P w = .ok (.value v) w) (hS : S w)
    (h : wpAnyH P md ops Q S fuel (listed.setIfInBounds i true) (a.put (some d) v) w) : wpAnyH P md ops Q S (fuel + 1) listed a w :=
  wpAnyH_take hi hs hf hr hQ (.inl ⟨hw, hy⟩) hS (by rw [hd]; exact h)

theorem held_mono {P : Program} {ops : Array Oper} {Q : Exit → Act → World → Prop} {md : Region.Mode} {S S' : World → Prop} (hs : ∀ w, S' w → S w) : ∀ (fuel : Nat) (listed : Array Bool) (a : Act) (w : World), wpAnyH P md ops Q S' fuel listed a w → wpAnyH P md ops Q S fuel listed a w
  | 0, _, _, _, h => h
  | fuel + 1, _, _, _, h => ⟨h.1, fun i hi => wpOp_mono (fun a' w' h' => ⟨hs w' h'.1, held_mono hs fuel _ a' w' h'.2⟩) (h.2 i hi)⟩

theorem at_last {l : List Int} (h : ¬ l.length = 0) : atB l ((l.length : Int) - 1) = true ∧ atI l ((l.length : Int) - 1) = l[l.length - 1]?.getD 0 := by
  have e : ((l.length : Int) - 1) = ((l.length - 1 : Nat) : Int) := by omega
  rw [e]; exact at_in (by omega)

theorem skip_at {P : Program} {ops : Array Oper} {Q : Exit → Act → World → Prop} {md : Region.Mode} {S : World → Prop} {i d : Nat} {oi : Oper} {fuel : Nat} {listed : Array Bool} {a : Act} {w : World} (hi : ops[i]? = some oi) (hd : oi.dst = some d)
    (hs : Region.noSelect ops = true) (hf : Region.free md ops listed i = true) (hr : (Region.ready md ops listed).contains i = true)
    (hQ : ∀ c a w, Q (.panic c) (a.put oi.dst undef) w → Q (.panic c) a w) (hw : Region.wanted oi (yielded ops a.tmps) = false) (hS : S w)
    (h : wpAnyH P md ops Q S fuel (listed.setIfInBounds i true) (a.put (some d) undef) w) : wpAnyH P md ops Q S (fuel + 1) listed a w :=
  wpAnyH_take hi hs hf hr hQ (.inr ⟨hw, rfl⟩) hS (by rw [hd]; exact h)

theorem both_new {w w1 w2 : World} {size : Nat} (hB1 : Below w.heap.size w w1) (hB2 : Below w1.heap.size w1 w2) (hr : Ring w2 w.heap.size 60 w1.heap.size size none 0 []) :
    Both w (w2.alloc (.cells #[.int .i64 size, .slice none 0 0] 31)) w1.heap.size w2.heap.size size [] [] := by
  have hB3 : Below w.heap.size w w2 := hB1.trans (hB2.mono hB1.size)
  have hlt := hr.lt
  refine ⟨⟨none, 0, none, 0, hr.alloc _, Held.new w2 w.heap.size 31 3 1 [.int .i64 size] hB3.size, ?_⟩, hB3.alloc hB3.size _⟩
  rintro i (rfl | ⟨a, ha, _⟩)
  · rintro (h | ⟨a, ha, _⟩)
    · omega
    · cases ha
  · cases ha

set_option maxRecDepth 100000 in
set_option maxHeartbeats 8000000 in
theorem plays_main (size : Nat) (at_ : Int) (ad : Option Addr) (len cap : Nat) (w : World) (h1 : 1 ≤ size) (h2 : size ≤ 40) (hc : Acts w ad len) :
    Calls Try.prog 3 #[.int .i64 size, .slice ad len cap, .int .i64 at_] w fun e w' => e = .returned (.bool true) ∧ Below w.heap.size w w' := by
  have d1 : decide (40 < (size : Int)) = false := by simp; omega
  have d3 : decide ((size : Int) < 1) = false := by simp; omega
  have d4 : decide (4096 < (size : Int)) = false := by simp; omega
  go_enter Try.func3, Try.ntmps3
  go_wp2_with fail
  refine (awake_c _).mono ?_
  rintro e w1 ⟨rfl, hB1⟩
  go_wp2_with fail
  refine (new_ring w.heap.size size (by omega) _ hB1.size).mono ?_
  rintro e w2 ⟨rfl, hr, hB2⟩
  go_wp2_with fail
  have hm0 : Both w (w2.alloc (.cells #[.int .i64 size, .slice none 0 0] 31)) w1.heap.size w2.heap.size size [] [] := both_new hB1 hB2 hr
  generalize w2.alloc (.cells #[.int .i64 size, .slice none 0 0] 31) = w3 at hm0 ⊢
  generalize w1.heap.size = b at hm0 ⊢
  generalize w2.heap.size = m at hm0 ⊢
  clear hr hB1 hB2 d1 d3 d4
  go_loopg [10] 150 (fun gk i wr => ∃ (k : Nat) (s : List Int), gk + k = 150 ∧ i = .int .i64 k ∧ s.length ≤ size ∧ Both w wr b m size s s)
  case atStart => exact ⟨0, [], rfl, rfl, by simp, hm0⟩
  case round =>
    obtain ⟨k, s, hk, rfl, hs, hI⟩ := hrel
    by_cases hlt : k < len ∧ k < 150
    · obtain ⟨hlt, hk1⟩ := hlt
      obtain ⟨c, off, kd, n, x, rfl, hcl, c0, c1, c2⟩ := hc k hlt
      replace c0 := (hI.old.cell (p := ⟨c, off + k * 3, none⟩) hcl).trans c0
      replace c1 := (hI.old.cell (p := ⟨c, off + k * 3 + 1, none⟩) hcl).trans c1
      replace c2 := (hI.old.cell (p := ⟨c, off + k * 3 + 2, none⟩) hcl).trans c2
      have e1 : ((k : Int) < (150 : Int)) := by omega
      have hA := ActAt.new wr kd n x
      have hI1 := hI.keep ((Below.refl _ wr).alloc (Nat.le_refl _) (.cells #[.int .i64 kd, .int .i64 n, .int .i64 x] 33))
      go_upto_region 13 with (fail)
      clear c0 c1 c2 hI
      generalize wr.alloc (.cells #[.int .i64 kd, .int .i64 n, .int .i64 x] 33) = w4 at hA hI1 ⊢
      generalize wr.heap.size = xb at hA ⊢
      go_cut [71] (fun s71 wx => s71 = .bool false ∧ ∃ s1 : List Int, s1.length ≤ size ∧ Both w wx b m size s1 s1 ∧ ActAt wx xb kd n x)
      case first =>
        have a0 := hA.c0
        have a1 := hA.c1
        by_cases k1 : kd = 1
        · subst k1
          have hId := hI1.drewN 1
          go_region_held3 (fun w' => w'.cell? ⟨xb, 0, none⟩ = some (.int .i64 1) ∧ w'.cell? ⟨xb, 1, none⟩ = some (.int .i64 n))
            (first | go_keep | exact ⟨hA6.c0, hA6.c1⟩ | exact ⟨hA5.c0, hA5.c1⟩)
            (first
              | (go_at_call 9; refine (push_both w _ b m size s s n hId (by omega) hs).mono ?_; rintro e w5 ⟨rfl, hI5, o5⟩; have hA5 : ActAt w5 xb 1 n x := ActAt.keep hA o5)
              | (go_at_call 10; refine (rpush_both w _ b m size (pushL size s n) s n hI5 (by omega) hs).mono ?_; rintro e w6 ⟨rfl, hI6, o6⟩; have hA6 := hA5.keep o6))
          go_wp2_with fail
          go_meet
          exact ⟨rfl, pushL size s n, pushL_len hs n, hI6, hA6⟩
        · have e2 : (kd == 1) = false := by simpa using k1
          go_quiet (fail)
          go_wp2_with fail
          go_meet
          exact ⟨rfl, s, hs, hI1.drewN _, hA⟩
      case rest =>
        obtain ⟨rfl, s1, hs1, hI2, hA2⟩ := hcut
        have hs2 : (playL kd n s1).length ≤ size := Nat.le_trans (playL_len kd n s1) hs1
        have hw : IntKind.i64.wrap ((size : Int) - ((playL kd n s1).length : Int)) = (size : Int) - ((playL kd n s1).length : Int) := IntWalk.i64_in _ (by omega)
        have a0 := hA2.c0
        have a1 := hA2.c1
        have a2 := hA2.c2
        have hId := hI2.drewN 1
        go_upto_region 15 with (fail)
        go_cut [108] (fun s108 wx => s108 = .bool false ∧ Both w wx b m size (playL kd n s1) (playL kd n s1))
        case first =>
          refine wp_region_held_drew (S := fun W => W.cell? ⟨xb, 0, none⟩ = some (.int .i64 kd) ∧ W.cell? ⟨xb, 1, none⟩ = some (.int .i64 n) ∧ W.cell? ⟨xb, 2, none⟩ = some (.int .i64 x)) (by kernel_rfl) ⟨a0, a1, a2⟩ (fun hHeld => ?_)
          (refine take_at (i := 0) (d := 72) (v := ?_) rfl rfl (by kernel_rfl) (by kernel_rfl) (by kernel_rfl) (fun _ _ _ h => h) (by rfl) ?_ (by assumption) ?_)
          rotate_left
          · (intro W hSW; (try dsimp only at hSW); go_simp; (try with_reducible rfl))
          simp only [Act.put, List.setIfInBounds_toArray, List.set_cons_zero, List.set_cons_succ]
          (refine take_at (i := 1) (d := 73) (v := ?_) rfl rfl (by kernel_rfl) (by kernel_rfl) (by kernel_rfl) (fun _ _ _ h => h) (by rfl) ?_ (by assumption) ?_)
          rotate_left
          · (intro W hSW; (try dsimp only at hSW); go_simp; (try with_reducible rfl))
          simp only [Act.put, List.setIfInBounds_toArray, List.set_cons_zero, List.set_cons_succ]
          (refine take_at (i := 2) (d := 74) (v := ?_) rfl rfl (by kernel_rfl) (by kernel_rfl) (by kernel_rfl) (fun _ _ _ h => h) (by rfl) ?_ (by assumption) ?_)
          rotate_left
          · (intro W hSW; (try dsimp only at hSW); go_simp; (try with_reducible rfl))
          simp only [Act.put, List.setIfInBounds_toArray, List.set_cons_zero, List.set_cons_succ]
          refine wpAnyH_ready (rs := [3]) (by kernel_rfl) (by simp) ?_
          refine AllReadyH.cons (i := 3) rfl (fun K hK => ?_) AllReadyH.nil
          go_simp
          refine (played_c w _ b m size s1 kd n x hId (by omega)).mono ?_
          rintro e w6 ⟨rfl, hI6, o6⟩
          obtain ⟨ao6, cap6, ao7, cap7, p6⟩ := hI6.two
          have m6 : w6.cell? ⟨m, 1, none⟩ = some (.slice ao7 (playL kd n s1).length cap7) := by simpa using p6.ref.cell 1
          have hA6 : ActAt w6 xb kd n x := ActAt.keep hA2 o6
          dsimp only
          refine hK.out _ _ ⟨hA6.c0, hA6.c1, hA6.c2⟩ (fun hHeld => ?_)
          clear hK K
          (try simp only [Act.put, List.setIfInBounds_toArray, List.set_cons_zero, List.set_cons_succ])
          clear hHeld
          refine held_mono (S' := fun W => (W.cell? ⟨xb, 0, none⟩ = some (.int .i64 kd) ∧ W.cell? ⟨xb, 1, none⟩ = some (.int .i64 n) ∧ W.cell? ⟨xb, 2, none⟩ = some (.int .i64 x)) ∧ W.cell? ⟨m, 1, none⟩ = some (.slice ao7 (playL kd n s1).length cap7)) (fun _ h => h.1) _ _ _ _ ?_
          have hHeld : (fun W : World => (W.cell? ⟨xb, 0, none⟩ = some (.int .i64 kd) ∧ W.cell? ⟨xb, 1, none⟩ = some (.int .i64 n) ∧ W.cell? ⟨xb, 2, none⟩ = some (.int .i64 x)) ∧ W.cell? ⟨m, 1, none⟩ = some (.slice ao7 (playL kd n s1).length cap7)) w6 := ⟨⟨hA6.c0, hA6.c1, hA6.c2⟩, m6⟩
          (refine take_at (i := 4) (d := 76) (v := ?_) rfl rfl (by kernel_rfl) (by kernel_rfl) (by kernel_rfl) (fun _ _ _ h => h) (by rfl) ?_ (by assumption) ?_)
          rotate_left
          · (intro W hSW; (try dsimp only at hSW); go_simp; (try with_reducible rfl))
          simp only [Act.put, List.setIfInBounds_toArray, List.set_cons_zero, List.set_cons_succ]
          (refine take_at (i := 5) (d := 77) (v := ?_) rfl rfl (by kernel_rfl) (by kernel_rfl) (by kernel_rfl) (fun _ _ _ h => h) (by rfl) ?_ (by assumption) ?_)
          rotate_left
          · (intro W hSW; (try dsimp only at hSW); go_simp; (try with_reducible rfl))
          simp only [Act.put, List.setIfInBounds_toArray, List.set_cons_zero, List.set_cons_succ]
          (refine take_at (i := 6) (d := 78) (v := ?_) rfl rfl (by kernel_rfl) (by kernel_rfl) (by kernel_rfl) (fun _ _ _ h => h) (by rfl) ?_ (by assumption) ?_)
          rotate_left
          · (intro W hSW; (try dsimp only at hSW); go_simp; (try with_reducible rfl))
          simp only [Act.put, List.setIfInBounds_toArray, List.set_cons_zero, List.set_cons_succ]
          (refine take_at (i := 8) (d := 80) (v := ?_) rfl rfl (by kernel_rfl) (by kernel_rfl) (by kernel_rfl) (fun _ _ _ h => h) (by rfl) ?_ (by assumption) ?_)
          rotate_left
          · (intro W hSW; (try dsimp only at hSW); go_simp; (try with_reducible rfl))
          simp only [Act.put, List.setIfInBounds_toArray, List.set_cons_zero, List.set_cons_succ]
          (refine take_at (i := 9) (d := 81) (v := ?_) rfl rfl (by kernel_rfl) (by kernel_rfl) (by kernel_rfl) (fun _ _ _ h => h) (by rfl) ?_ (by assumption) ?_)
          rotate_left
          · (intro W hSW; (try dsimp only at hSW); go_simp; (try with_reducible rfl))
          simp only [Act.put, List.setIfInBounds_toArray, List.set_cons_zero, List.set_cons_succ]
          (refine take_at (i := 10) (d := 82) (v := ?_) rfl rfl (by kernel_rfl) (by kernel_rfl) (by kernel_rfl) (fun _ _ _ h => h) (by rfl) ?_ (by assumption) ?_)
          rotate_left
          · (intro W hSW; (try dsimp only at hSW); go_simp; (try with_reducible rfl))
          simp only [Act.put, List.setIfInBounds_toArray, List.set_cons_zero, List.set_cons_succ]
          (refine take_at (i := 11) (d := 83) (v := ?_) rfl rfl (by kernel_rfl) (by kernel_rfl) (by kernel_rfl) (fun _ _ _ h => h) (by rfl) ?_ (by assumption) ?_)
          rotate_left
          · (intro W hSW; (try dsimp only at hSW); go_simp; (try with_reducible rfl))
          simp only [Act.put, List.setIfInBounds_toArray, List.set_cons_zero, List.set_cons_succ]
          refine wpAnyH_ready (rs := [7]) (by kernel_rfl) (by simp) ?_
          refine AllReadyH.cons (i := 7) rfl (fun K hK => ?_) AllReadyH.nil
          go_simp
          refine (list_c _ _ _ _ _ _ _ p6.ring (by omega)).mono ?_
          rintro e w7 ⟨aoL, capL, rfl, hL, hB7⟩
          have p7r := p6.ring.old hB7
          have p7 := p6.ref.old hB7
          have hI7 := hI6.keep hB7
          have hA7 : ActAt w7 xb kd n x := ActAt.keep hA6 (Others.old hB7)
          have m7 : w7.cell? ⟨m, 1, none⟩ = some (.slice ao7 (playL kd n s1).length cap7) := by simpa using p7.cell 1
          have r7 : w7.cell? ⟨b, 1, none⟩ = some (.slice ao6 (playL kd n s1).length cap6) := by simpa using p7r.cell 1
          have r8 : w7.cell? ⟨b, 0, none⟩ = some (.int .i64 size) := by simpa using p7r.cell 0
          dsimp only
          refine hK.out _ _ ⟨⟨hA7.c0, hA7.c1, hA7.c2⟩, m7⟩ (fun hHeld => ?_)
          clear hK K
          (try simp only [Act.put, List.setIfInBounds_toArray, List.set_cons_zero, List.set_cons_succ])
          refine wpAnyH_ready (rs := [12]) (by kernel_rfl) (by simp) ?_
          refine AllReadyH.cons (i := 12) rfl (fun K hK => ?_) AllReadyH.nil
          go_simp
          refine (ints_c _ _ _ _ _ _ _ _ hL p7.row (by omega)).mono ?_
          rintro e w8 ⟨rfl, q8, rfl⟩
          dsimp only
          refine hK.out _ _ ⟨⟨hA7.c0, hA7.c1, hA7.c2⟩, m7⟩ (fun hHeld => ?_)
          clear hK K
          (try simp only [Act.put, List.setIfInBounds_toArray, List.set_cons_zero, List.set_cons_succ])
          (refine take_at (i := 13) (d := 85) (v := ?_) rfl rfl (by kernel_rfl) (by kernel_rfl) (by kernel_rfl) (fun _ _ _ h => h) (by rfl) ?_ (by assumption) ?_)
          rotate_left
          · (intro W hSW; (try dsimp only at hSW); go_simp; (try with_reducible rfl))
          simp only [Act.put, List.setIfInBounds_toArray, List.set_cons_zero, List.set_cons_succ]
          (refine take_at (i := 14) (d := 86) (v := ?_) rfl rfl (by kernel_rfl) (by kernel_rfl) (by kernel_rfl) (fun _ _ _ h => h) (by rfl) ?_ (by assumption) ?_)
          rotate_left
          · (intro W hSW; (try dsimp only at hSW); go_simp; (try with_reducible rfl))
          simp only [Act.put, List.setIfInBounds_toArray, List.set_cons_zero, List.set_cons_succ]
          (refine take_at (i := 15) (d := 87) (v := ?_) rfl rfl (by kernel_rfl) (by kernel_rfl) (by kernel_rfl) (fun _ _ _ h => h) (by rfl) ?_ (by assumption) ?_)
          rotate_left
          · (intro W hSW; (try dsimp only at hSW); go_simp; (try with_reducible rfl))
          simp only [Act.put, List.setIfInBounds_toArray, List.set_cons_zero, List.set_cons_succ]
          (refine take_at (i := 16) (d := 88) (v := ?_) rfl rfl (by kernel_rfl) (by kernel_rfl) (by kernel_rfl) (fun _ _ _ h => h) (by rfl) ?_ (by assumption) ?_)
          rotate_left
          · (intro W hSW; (try dsimp only at hSW); go_simp; (try with_reducible rfl))
          simp only [Act.put, List.setIfInBounds_toArray, List.set_cons_zero, List.set_cons_succ]
          (refine take_at (i := 18) (d := 90) (v := ?_) rfl rfl (by kernel_rfl) (by kernel_rfl) (by kernel_rfl) (fun _ _ _ h => h) (by rfl) ?_ (by assumption) ?_)
          rotate_left
          · (intro W hSW; (try dsimp only at hSW); go_simp; (try with_reducible rfl))
          simp only [Act.put, List.setIfInBounds_toArray, List.set_cons_zero, List.set_cons_succ]
          (refine take_at (i := 19) (d := 91) (v := ?_) rfl rfl (by kernel_rfl) (by kernel_rfl) (by kernel_rfl) (fun _ _ _ h => h) (by rfl) ?_ (by assumption) ?_)
          rotate_left
          · (intro W hSW; (try dsimp only at hSW); go_simp; (try with_reducible rfl))
          simp only [Act.put, List.setIfInBounds_toArray, List.set_cons_zero, List.set_cons_succ]
          (refine take_at (i := 20) (d := 92) (v := ?_) rfl rfl (by kernel_rfl) (by kernel_rfl) (by kernel_rfl) (fun _ _ _ h => h) (by rfl) ?_ (by assumption) ?_)
          rotate_left
          · (intro W hSW; (try dsimp only at hSW); go_simp; (try with_reducible rfl))
          simp only [Act.put, List.setIfInBounds_toArray, List.set_cons_zero, List.set_cons_succ]
          (refine take_at (i := 21) (d := 93) (v := ?_) rfl rfl (by kernel_rfl) (by kernel_rfl) (by kernel_rfl) (fun _ _ _ h => h) (by rfl) ?_ (by assumption) ?_)
          rotate_left
          · (intro W hSW; (try dsimp only at hSW); go_simp; (try with_reducible rfl))
          simp only [Act.put, List.setIfInBounds_toArray, List.set_cons_zero, List.set_cons_succ]
          (refine take_at (i := 22) (d := 94) (v := ?_) rfl rfl (by kernel_rfl) (by kernel_rfl) (by kernel_rfl) (fun _ _ _ h => h) (by rfl) ?_ (by assumption) ?_)
          rotate_left
          · (intro W hSW; (try dsimp only at hSW); go_simp; (try with_reducible rfl))
          simp only [Act.put, List.setIfInBounds_toArray, List.set_cons_zero, List.set_cons_succ]
          refine wpAnyH_ready (rs := [17]) (by kernel_rfl) (by simp) ?_
          refine AllReadyH.cons (i := 17) rfl (fun K hK => ?_) AllReadyH.nil
          go_simp
          refine (len_c _ _ _ _ _ (by simpa using r7)).mono ?_
          rintro e w9 ⟨rfl, rfl⟩
          dsimp only
          refine hK.out _ _ ⟨⟨hA7.c0, hA7.c1, hA7.c2⟩, m7⟩ (fun hHeld => ?_)
          clear hK K
          (try simp only [Act.put, List.setIfInBounds_toArray, List.set_cons_zero, List.set_cons_succ])
          (refine take_at (i := 23) (d := 95) (v := ?_) rfl rfl (by kernel_rfl) (by kernel_rfl) (by kernel_rfl) (fun _ _ _ h => h) (by rfl) ?_ (by assumption) ?_)
          rotate_left
          · (intro W hSW; (try dsimp only at hSW); go_simp; (try with_reducible rfl))
          simp only [Act.put, List.setIfInBounds_toArray, List.set_cons_zero, List.set_cons_succ]
          (refine take_at (i := 24) (d := 96) (v := ?_) rfl rfl (by kernel_rfl) (by kernel_rfl) (by kernel_rfl) (fun _ _ _ h => h) (by rfl) ?_ (by assumption) ?_)
          rotate_left
          · (intro W hSW; (try dsimp only at hSW); go_simp; (try with_reducible rfl))
          simp only [Act.put, List.setIfInBounds_toArray, List.set_cons_zero, List.set_cons_succ]
          (refine take_at (i := 25) (d := 97) (v := ?_) rfl rfl (by kernel_rfl) (by kernel_rfl) (by kernel_rfl) (fun _ _ _ h => h) (by rfl) ?_ (by assumption) ?_)
          rotate_left
          · (intro W hSW; (try dsimp only at hSW); go_simp; (try with_reducible rfl))
          simp only [Act.put, List.setIfInBounds_toArray, List.set_cons_zero, List.set_cons_succ]
          (refine take_at (i := 26) (d := 98) (v := ?_) rfl rfl (by kernel_rfl) (by kernel_rfl) (by kernel_rfl) (fun _ _ _ h => h) (by rfl) ?_ (by assumption) ?_)
          rotate_left
          · (intro W hSW; (try dsimp only at hSW); go_simp; (try with_reducible rfl))
          simp only [Act.put, List.setIfInBounds_toArray, List.set_cons_zero, List.set_cons_succ]
          (refine take_at (i := 28) (d := 100) (v := ?_) rfl rfl (by kernel_rfl) (by kernel_rfl) (by kernel_rfl) (fun _ _ _ h => h) (by rfl) ?_ (by assumption) ?_)
          rotate_left
          · (intro W hSW; (try dsimp only at hSW); go_simp; (try with_reducible rfl))
          simp only [Act.put, List.setIfInBounds_toArray, List.set_cons_zero, List.set_cons_succ]
          (refine take_at (i := 29) (d := 101) (v := ?_) rfl rfl (by kernel_rfl) (by kernel_rfl) (by kernel_rfl) (fun _ _ _ h => h) (by rfl) ?_ (by assumption) ?_)
          rotate_left
          · (intro W hSW; (try dsimp only at hSW); go_simp; (try with_reducible rfl))
          simp only [Act.put, List.setIfInBounds_toArray, List.set_cons_zero, List.set_cons_succ]
          (refine take_at (i := 30) (d := 102) (v := ?_) rfl rfl (by kernel_rfl) (by kernel_rfl) (by kernel_rfl) (fun _ _ _ h => h) (by rfl) ?_ (by assumption) ?_)
          rotate_left
          · (intro W hSW; (try dsimp only at hSW); go_simp; (try with_reducible rfl))
          simp only [Act.put, List.setIfInBounds_toArray, List.set_cons_zero, List.set_cons_succ]
          (refine take_at (i := 31) (d := 103) (v := ?_) rfl rfl (by kernel_rfl) (by kernel_rfl) (by kernel_rfl) (fun _ _ _ h => h) (by rfl) ?_ (by assumption) ?_)
          rotate_left
          · (intro W hSW; (try dsimp only at hSW); go_simp; (try with_reducible rfl))
          simp only [Act.put, List.setIfInBounds_toArray, List.set_cons_zero, List.set_cons_succ]
          (refine take_at (i := 32) (d := 104) (v := ?_) rfl rfl (by kernel_rfl) (by kernel_rfl) (by kernel_rfl) (fun _ _ _ h => h) (by rfl) ?_ (by assumption) ?_)
          rotate_left
          · (intro W hSW; (try dsimp only at hSW); go_simp; (try with_reducible rfl))
          simp only [Act.put, List.setIfInBounds_toArray, List.set_cons_zero, List.set_cons_succ]
          (refine take_at (i := 33) (d := 105) (v := ?_) rfl rfl (by kernel_rfl) (by kernel_rfl) (by kernel_rfl) (fun _ _ _ h => h) (by rfl) ?_ (by assumption) ?_)
          rotate_left
          · (intro W hSW; (try dsimp only at hSW); go_simp; (try with_reducible rfl))
          simp only [Act.put, List.setIfInBounds_toArray, List.set_cons_zero, List.set_cons_succ]
          (refine take_at (i := 34) (d := 106) (v := ?_) rfl rfl (by kernel_rfl) (by kernel_rfl) (by kernel_rfl) (fun _ _ _ h => h) (by rfl) ?_ (by assumption) ?_)
          rotate_left
          · (intro W hSW; (try dsimp only at hSW); go_simp; (try with_reducible rfl))
          simp only [Act.put, List.setIfInBounds_toArray, List.set_cons_zero, List.set_cons_succ]
          refine wpAnyH_ready (rs := [27]) (by kernel_rfl) (by simp) ?_
          refine AllReadyH.cons (i := 27) rfl (fun K hK => ?_) AllReadyH.nil
          go_simp
          refine (room_c _ _ _ _ _ _ (by omega) hs2 (by simpa using r8) (by simpa using r7)).mono ?_
          rintro e w10 ⟨rfl, q10, rfl⟩
          dsimp only
          refine hK.out _ _ ⟨⟨hA7.c0, hA7.c1, hA7.c2⟩, m7⟩ (fun hHeld => ?_)
          clear hK K
          (try simp only [Act.put, List.setIfInBounds_toArray, List.set_cons_zero, List.set_cons_succ])
          (refine take_at (i := 35) (d := 107) (v := ?_) rfl rfl (by kernel_rfl) (by kernel_rfl) (by kernel_rfl) (fun _ _ _ h => h) (by rfl) ?_ (by assumption) ?_)
          rotate_left
          · (intro W hSW; (try dsimp only at hSW); go_simp; (try with_reducible rfl))
          simp only [Act.put, List.setIfInBounds_toArray, List.set_cons_zero, List.set_cons_succ]
          (refine take_at (i := 36) (d := 108) (v := ?_) rfl rfl (by kernel_rfl) (by kernel_rfl) (by kernel_rfl) (fun _ _ _ h => h) (by rfl) ?_ (by assumption) ?_)
          rotate_left
          · (intro W hSW; (try dsimp only at hSW); go_simp; (try with_reducible rfl))
          simp only [Act.put, List.setIfInBounds_toArray, List.set_cons_zero, List.set_cons_succ]
          refine wpAnyH_done (by kernel_rfl) ?_ _
          go_wp2_with fail
          go_meet
          exact ⟨rfl, hI7.drewN _⟩
        case rest =>
          obtain ⟨rfl, hI3⟩ := hcut
          obtain ⟨ao8, cap8, ao9, cap9, p8⟩ := hI3.two
          clear hI2 hId hA2 a0 a1 a2 hw
          generalize playL kd n s1 = s2 at hI3 p8 hs2
          have m8 : wc.cell? ⟨m, 1, none⟩ = some (.slice ao9 s2.length cap9) := by simpa using p8.ref.cell 1
          obtain ⟨L, HL⟩ : ∃ L, Hid (s2.length = L) := ⟨_, rfl⟩
          have hL : L ≤ 40 := by have := HL.out; omega
          rw [HL.out] at m8
          go_upto_region 17 with (fail)
          go_wp2_with fail
          refine (at_c at_ _ b size cap8 ao8 s2 _ p8.ring (by omega)).mono ?_
          rintro e w9 ⟨rfl, rfl⟩
          go_wp2_with fail
          refine (last_c _ b size cap8 ao8 s2 _ p8.ring (by omega)).mono ?_
          rintro e w9 ⟨rfl, rfl⟩
          rw [HL.out]
          have hrow : ∀ i : Nat, i < s2.length → ∃ g, ao9 = some ⟨g, 0, none⟩ ∧ wc.cell? ⟨g, i, none⟩ = some (.int .i64 (s2[i]?.getD 0)) := fun i hi => row_cell p8.ref.row i hi
          have Hrow := hid hrow
          clear hrow
          go_upto_region 19 with (fail)
          go_cut [12, 13, 154] (fun _ _ s154 wx => s154 = .bool false ∧ wc = wx)
          case first =>
            by_cases n0 : at_ < 0
            · have q1 := (at_neg (l := s2) n0).1
              have q2 := (at_neg (l := s2) n0).2
              have d1 : decide (0 ≤ at_) = false := by simp; omega
              go_wp2_with fail
              go_meet
              exact ⟨rfl, rfl⟩
            · by_cases n1 : (L : Int) ≤ at_
              · have q1 := (at_far (l := s2) (by rw [HL.out]; exact n1)).1
                have q2 := (at_far (l := s2) (by rw [HL.out]; exact n1)).2
                have d1 : decide (0 ≤ at_) = true := by simp; omega
                have d2 : decide (at_ < (L : Int)) = false := by simp; omega
                go_wp2_with fail
                go_meet
                exact ⟨rfl, rfl⟩
              · have d1 : decide (0 ≤ at_) = true := by simp; omega
                have d2 : decide (at_ < (L : Int)) = true := by simp; omega
                have g1 : 0 ≤ at_ := by omega
                have g2 : at_ < (L : Int) := by omega
                have q1 : atB s2 at_ = true := by have := HL.out; simp only [atB, Bool.and_eq_true, decide_eq_true_iff]; omega
                obtain ⟨g, rfl, q3⟩ := Hrow.out at_.toNat (by have := HL.out; omega)
                have q4 : wc.cell? ⟨g, at_.toNat, none⟩ = some (.int .i64 (atI s2 at_)) := by rw [q3]; simp [atI, q1]
                clear q3
                go_wp2_with fail
                go_meet
                exact ⟨rfl, rfl⟩
          case rest =>
            obtain ⟨rfl, rfl⟩ := hcut
            go_upto_region 21 with (fail)
            go_cut [14, 15, 189] (fun _ _ s189 wx => s189 = .bool false ∧ ∃ q, wx = wc.drewN q)
            case first =>
              by_cases n0 : L = 0
              · have q1 : atB s2 ((L : Int) - 1) = false := (at_neg (l := s2) (by omega)).1
                have q2 : atI s2 ((L : Int) - 1) = 0 := (at_neg (l := s2) (by omega)).2
                have d1 : decide (0 < L) = false := by rw [decide_eq_false_iff_not]; omega
                clear n0
                refine wp_region_held_drew (S := fun W => W.cell? ⟨m, 1, none⟩ = some (.slice ao9 L cap9)) (by kernel_rfl) m8 (fun hHeld => ?_)
                (refine take_at (i := 0) (d := 155) (v := ?_) rfl rfl (by kernel_rfl) (by kernel_rfl) (by kernel_rfl) (fun _ _ _ h => h) (by rfl) ?_ (by assumption) ?_)
                rotate_left
                · (intro W hSW; (try dsimp only at hSW); go_simp; (try with_reducible rfl))
                simp only [Act.put, List.setIfInBounds_toArray, List.set_cons_zero, List.set_cons_succ]
                (refine take_at (i := 1) (d := 156) (v := ?_) rfl rfl (by kernel_rfl) (by kernel_rfl) (by kernel_rfl) (fun _ _ _ h => h) (by rfl) ?_ (by assumption) ?_)
                rotate_left
                · (intro W hSW; (try dsimp only at hSW); go_simp; (try with_reducible rfl))
                simp only [Act.put, List.setIfInBounds_toArray, List.set_cons_zero, List.set_cons_succ]
                (refine take_at (i := 2) (d := 157) (v := ?_) rfl rfl (by kernel_rfl) (by kernel_rfl) (by kernel_rfl) (fun _ _ _ h => h) (by rfl) ?_ (by assumption) ?_)
                rotate_left
                · (intro W hSW; (try dsimp only at hSW); go_simp; (try with_reducible rfl))
                simp only [Act.put, List.setIfInBounds_toArray, List.set_cons_zero, List.set_cons_succ]
                (refine take_at (i := 3) (d := 158) (v := ?_) rfl rfl (by kernel_rfl) (by kernel_rfl) (by kernel_rfl) (fun _ _ _ h => h) (by rfl) ?_ (by assumption) ?_)
                rotate_left
                · (intro W hSW; (try dsimp only at hSW); go_simp; (try with_reducible rfl))
                simp only [Act.put, List.setIfInBounds_toArray, List.set_cons_zero, List.set_cons_succ]
                (refine take_at (i := 4) (d := 159) (v := ?_) rfl rfl (by kernel_rfl) (by kernel_rfl) (by kernel_rfl) (fun _ _ _ h => h) (by rfl) ?_ (by assumption) ?_)
                rotate_left
                · (intro W hSW; (try dsimp only at hSW); go_simp; (try with_reducible rfl))
                simp only [Act.put, List.setIfInBounds_toArray, List.set_cons_zero, List.set_cons_succ]
                (refine take_at (i := 5) (d := 160) (v := ?_) rfl rfl (by kernel_rfl) (by kernel_rfl) (by kernel_rfl) (fun _ _ _ h => h) (by rfl) ?_ (by assumption) ?_)
                rotate_left
                · (intro W hSW; (try dsimp only at hSW); go_simp; (try with_reducible rfl))
                simp only [Act.put, List.setIfInBounds_toArray, List.set_cons_zero, List.set_cons_succ]
                (refine take_at (i := 6) (d := 161) (v := ?_) rfl rfl (by kernel_rfl) (by kernel_rfl) (by kernel_rfl) (fun _ _ _ h => h) (by rfl) ?_ (by assumption) ?_)
                rotate_left
                · (intro W hSW; (try dsimp only at hSW); go_simp; (try with_reducible rfl))
                simp only [Act.put, List.setIfInBounds_toArray, List.set_cons_zero, List.set_cons_succ]
                (refine take_at (i := 7) (d := 162) (v := ?_) rfl rfl (by kernel_rfl) (by kernel_rfl) (by kernel_rfl) (fun _ _ _ h => h) (by rfl) ?_ (by assumption) ?_)
                rotate_left
                · (intro W hSW; (try dsimp only at hSW); go_simp; (try with_reducible rfl))
                simp only [Act.put, List.setIfInBounds_toArray, List.set_cons_zero, List.set_cons_succ]
                (refine take_at (i := 8) (d := 163) (v := ?_) rfl rfl (by kernel_rfl) (by kernel_rfl) (by kernel_rfl) (fun _ _ _ h => h) (by rfl) ?_ (by assumption) ?_)
                rotate_left
                · (intro W hSW; (try dsimp only at hSW); go_simp; (try with_reducible rfl))
                simp only [Act.put, List.setIfInBounds_toArray, List.set_cons_zero, List.set_cons_succ]
                (refine take_at (i := 9) (d := 164) (v := ?_) rfl rfl (by kernel_rfl) (by kernel_rfl) (by kernel_rfl) (fun _ _ _ h => h) (by rfl) ?_ (by assumption) ?_)
                rotate_left
                · (intro W hSW; (try dsimp only at hSW); go_simp; (try with_reducible rfl))
                simp only [Act.put, List.setIfInBounds_toArray, List.set_cons_zero, List.set_cons_succ]
                (refine take_at (i := 10) (d := 165) (v := ?_) rfl rfl (by kernel_rfl) (by kernel_rfl) (by kernel_rfl) (fun _ _ _ h => h) (by rfl) ?_ (by assumption) ?_)
                rotate_left
                · (intro W hSW; (try dsimp only at hSW); go_simp; (try with_reducible rfl))
                simp only [Act.put, List.setIfInBounds_toArray, List.set_cons_zero, List.set_cons_succ]
                refine skip_at (i := 11) (d := 166) rfl rfl (by kernel_rfl) (by kernel_rfl) (by kernel_rfl) (fun _ _ _ h => h) (by rfl) (by assumption) ?_
                simp only [Act.put, List.setIfInBounds_toArray, List.set_cons_zero, List.set_cons_succ]
                refine skip_at (i := 12) (d := 167) rfl rfl (by kernel_rfl) (by kernel_rfl) (by kernel_rfl) (fun _ _ _ h => h) (by rfl) (by assumption) ?_
                simp only [Act.put, List.setIfInBounds_toArray, List.set_cons_zero, List.set_cons_succ]
                refine skip_at (i := 13) (d := 168) rfl rfl (by kernel_rfl) (by kernel_rfl) (by kernel_rfl) (fun _ _ _ h => h) (by rfl) (by assumption) ?_
                simp only [Act.put, List.setIfInBounds_toArray, List.set_cons_zero, List.set_cons_succ]
                refine skip_at (i := 14) (d := 169) rfl rfl (by kernel_rfl) (by kernel_rfl) (by kernel_rfl) (fun _ _ _ h => h) (by rfl) (by assumption) ?_
                simp only [Act.put, List.setIfInBounds_toArray, List.set_cons_zero, List.set_cons_succ]
                refine skip_at (i := 15) (d := 170) rfl rfl (by kernel_rfl) (by kernel_rfl) (by kernel_rfl) (fun _ _ _ h => h) (by rfl) (by assumption) ?_
                simp only [Act.put, List.setIfInBounds_toArray, List.set_cons_zero, List.set_cons_succ]
                refine skip_at (i := 16) (d := 171) rfl rfl (by kernel_rfl) (by kernel_rfl) (by kernel_rfl) (fun _ _ _ h => h) (by rfl) (by assumption) ?_
                simp only [Act.put, List.setIfInBounds_toArray, List.set_cons_zero, List.set_cons_succ]
                refine skip_at (i := 17) (d := 172) rfl rfl (by kernel_rfl) (by kernel_rfl) (by kernel_rfl) (fun _ _ _ h => h) (by rfl) (by assumption) ?_
                simp only [Act.put, List.setIfInBounds_toArray, List.set_cons_zero, List.set_cons_succ]
                refine skip_at (i := 18) (d := 173) rfl rfl (by kernel_rfl) (by kernel_rfl) (by kernel_rfl) (fun _ _ _ h => h) (by rfl) (by assumption) ?_
                simp only [Act.put, List.setIfInBounds_toArray, List.set_cons_zero, List.set_cons_succ]
                refine skip_at (i := 19) (d := 174) rfl rfl (by kernel_rfl) (by kernel_rfl) (by kernel_rfl) (fun _ _ _ h => h) (by rfl) (by assumption) ?_
                simp only [Act.put, List.setIfInBounds_toArray, List.set_cons_zero, List.set_cons_succ]
                refine skip_at (i := 20) (d := 175) rfl rfl (by kernel_rfl) (by kernel_rfl) (by kernel_rfl) (fun _ _ _ h => h) (by rfl) (by assumption) ?_
                simp only [Act.put, List.setIfInBounds_toArray, List.set_cons_zero, List.set_cons_succ]
                refine skip_at (i := 21) (d := 176) rfl rfl (by kernel_rfl) (by kernel_rfl) (by kernel_rfl) (fun _ _ _ h => h) (by rfl) (by assumption) ?_
                simp only [Act.put, List.setIfInBounds_toArray, List.set_cons_zero, List.set_cons_succ]
                refine skip_at (i := 22) (d := 177) rfl rfl (by kernel_rfl) (by kernel_rfl) (by kernel_rfl) (fun _ _ _ h => h) (by rfl) (by assumption) ?_
                simp only [Act.put, List.setIfInBounds_toArray, List.set_cons_zero, List.set_cons_succ]
                refine skip_at (i := 23) (d := 178) rfl rfl (by kernel_rfl) (by kernel_rfl) (by kernel_rfl) (fun _ _ _ h => h) (by rfl) (by assumption) ?_
                simp only [Act.put, List.setIfInBounds_toArray, List.set_cons_zero, List.set_cons_succ]
                refine skip_at (i := 24) (d := 179) rfl rfl (by kernel_rfl) (by kernel_rfl) (by kernel_rfl) (fun _ _ _ h => h) (by rfl) (by assumption) ?_
                simp only [Act.put, List.setIfInBounds_toArray, List.set_cons_zero, List.set_cons_succ]
                (refine take_at (i := 25) (d := 180) (v := ?_) rfl rfl (by kernel_rfl) (by kernel_rfl) (by kernel_rfl) (fun _ _ _ h => h) (by rfl) ?_ (by assumption) ?_)
                rotate_left
                · (intro W hSW; (try dsimp only at hSW); go_simp; (try with_reducible rfl))
                simp only [Act.put, List.setIfInBounds_toArray, List.set_cons_zero, List.set_cons_succ]
                (refine take_at (i := 26) (d := 181) (v := ?_) rfl rfl (by kernel_rfl) (by kernel_rfl) (by kernel_rfl) (fun _ _ _ h => h) (by rfl) ?_ (by assumption) ?_)
                rotate_left
                · (intro W hSW; (try dsimp only at hSW); go_simp; (try with_reducible rfl))
                simp only [Act.put, List.setIfInBounds_toArray, List.set_cons_zero, List.set_cons_succ]
                (refine take_at (i := 27) (d := 182) (v := ?_) rfl rfl (by kernel_rfl) (by kernel_rfl) (by kernel_rfl) (fun _ _ _ h => h) (by rfl) ?_ (by assumption) ?_)
                rotate_left
                · (intro W hSW; (try dsimp only at hSW); go_simp; (try with_reducible rfl))
                simp only [Act.put, List.setIfInBounds_toArray, List.set_cons_zero, List.set_cons_succ]
                (refine take_at (i := 28) (d := 183) (v := ?_) rfl rfl (by kernel_rfl) (by kernel_rfl) (by kernel_rfl) (fun _ _ _ h => h) (by rfl) ?_ (by assumption) ?_)
                rotate_left
                · (intro W hSW; (try dsimp only at hSW); go_simp; (try with_reducible rfl))
                simp only [Act.put, List.setIfInBounds_toArray, List.set_cons_zero, List.set_cons_succ]
                (refine take_at (i := 29) (d := 184) (v := ?_) rfl rfl (by kernel_rfl) (by kernel_rfl) (by kernel_rfl) (fun _ _ _ h => h) (by rfl) ?_ (by assumption) ?_)
                rotate_left
                · (intro W hSW; (try dsimp only at hSW); go_simp; (try with_reducible rfl))
                simp only [Act.put, List.setIfInBounds_toArray, List.set_cons_zero, List.set_cons_succ]
                (refine take_at (i := 30) (d := 185) (v := ?_) rfl rfl (by kernel_rfl) (by kernel_rfl) (by kernel_rfl) (fun _ _ _ h => h) (by rfl) ?_ (by assumption) ?_)
                rotate_left
                · (intro W hSW; (try dsimp only at hSW); go_simp; (try with_reducible rfl))
                simp only [Act.put, List.setIfInBounds_toArray, List.set_cons_zero, List.set_cons_succ]
                (refine take_at (i := 31) (d := 186) (v := ?_) rfl rfl (by kernel_rfl) (by kernel_rfl) (by kernel_rfl) (fun _ _ _ h => h) (by rfl) ?_ (by assumption) ?_)
                rotate_left
                · (intro W hSW; (try dsimp only at hSW); go_simp; (try with_reducible rfl))
                simp only [Act.put, List.setIfInBounds_toArray, List.set_cons_zero, List.set_cons_succ]
                (refine take_at (i := 32) (d := 187) (v := ?_) rfl rfl (by kernel_rfl) (by kernel_rfl) (by kernel_rfl) (fun _ _ _ h => h) (by rfl) ?_ (by assumption) ?_)
                rotate_left
                · (intro W hSW; (try dsimp only at hSW); go_simp; (try with_reducible rfl))
                simp only [Act.put, List.setIfInBounds_toArray, List.set_cons_zero, List.set_cons_succ]
                (refine take_at (i := 33) (d := 188) (v := ?_) rfl rfl (by kernel_rfl) (by kernel_rfl) (by kernel_rfl) (fun _ _ _ h => h) (by rfl) ?_ (by assumption) ?_)
                rotate_left
                · (intro W hSW; (try dsimp only at hSW); go_simp; (try with_reducible rfl))
                simp only [Act.put, List.setIfInBounds_toArray, List.set_cons_zero, List.set_cons_succ]
                (refine take_at (i := 34) (d := 189) (v := ?_) rfl rfl (by kernel_rfl) (by kernel_rfl) (by kernel_rfl) (fun _ _ _ h => h) (by rfl) ?_ (by assumption) ?_)
                rotate_left
                · (intro W hSW; (try dsimp only at hSW); go_simp; (try with_reducible rfl))
                simp only [Act.put, List.setIfInBounds_toArray, List.set_cons_zero, List.set_cons_succ]
                refine wpAnyH_done (by kernel_rfl) ?_ _
                go_wp2_with fail
                go_meet
                exact ⟨rfl, 1, rfl⟩
              · have d1 : decide (0 < L) = true := by rw [decide_eq_true_iff]; omega
                have g0 : IntKind.i64.wrap ((L : Int) - 1) = (L : Int) - 1 := IntWalk.i64_in _ (by omega)
                have g1 : 0 ≤ (L : Int) - 1 := by omega
                have g4 : (1 : Int) ≤ (L : Int) := by omega
                have g2 : (L : Int) - 1 < (L : Int) := by omega
                have g3 : ((L : Int) - 1).toNat = L - 1 := by omega
                have q1 : atB s2 ((L : Int) - 1) = true := by rw [← HL.out]; exact (at_last (by rw [HL.out]; exact n0)).1
                obtain ⟨g, rfl, q3⟩ := Hrow.out (L - 1) (by rw [HL.out]; omega)
                have q4 : wc.cell? ⟨g, L - 1, none⟩ = some (.int .i64 (atI s2 ((L : Int) - 1))) := by rw [q3, ← HL.out, (at_last (by rw [HL.out]; exact n0)).2]
                clear q3 n0
                refine wp_region_held_drew (S := fun W => W.cell? ⟨m, 1, none⟩ = some (.slice (some ⟨g, 0, none⟩) L cap9) ∧ W.cell? ⟨g, L - 1, none⟩ = some (.int .i64 (atI s2 ((L : Int) - 1)))) (by kernel_rfl) ⟨m8, q4⟩ (fun hHeld => ?_)
                (refine take_at (i := 0) (d := 155) (v := ?_) rfl rfl (by kernel_rfl) (by kernel_rfl) (by kernel_rfl) (fun _ _ _ h => h) (by rfl) ?_ (by assumption) ?_)
                rotate_left
                · (intro W hSW; (try dsimp only at hSW); go_simp; (try with_reducible rfl))
                simp only [Act.put, List.setIfInBounds_toArray, List.set_cons_zero, List.set_cons_succ]
                (refine take_at (i := 1) (d := 156) (v := ?_) rfl rfl (by kernel_rfl) (by kernel_rfl) (by kernel_rfl) (fun _ _ _ h => h) (by rfl) ?_ (by assumption) ?_)
                rotate_left
                · (intro W hSW; (try dsimp only at hSW); go_simp; (try with_reducible rfl))
                simp only [Act.put, List.setIfInBounds_toArray, List.set_cons_zero, List.set_cons_succ]
                (refine take_at (i := 2) (d := 157) (v := ?_) rfl rfl (by kernel_rfl) (by kernel_rfl) (by kernel_rfl) (fun _ _ _ h => h) (by rfl) ?_ (by assumption) ?_)
                rotate_left
                · (intro W hSW; (try dsimp only at hSW); go_simp; (try with_reducible rfl))
                simp only [Act.put, List.setIfInBounds_toArray, List.set_cons_zero, List.set_cons_succ]
                (refine take_at (i := 3) (d := 158) (v := ?_) rfl rfl (by kernel_rfl) (by kernel_rfl) (by kernel_rfl) (fun _ _ _ h => h) (by rfl) ?_ (by assumption) ?_)
                rotate_left
                · (intro W hSW; (try dsimp only at hSW); go_simp; (try with_reducible rfl))
                simp only [Act.put, List.setIfInBounds_toArray, List.set_cons_zero, List.set_cons_succ]
                (refine take_at (i := 4) (d := 159) (v := ?_) rfl rfl (by kernel_rfl) (by kernel_rfl) (by kernel_rfl) (fun _ _ _ h => h) (by rfl) ?_ (by assumption) ?_)
                rotate_left
                · (intro W hSW; (try dsimp only at hSW); go_simp; (try with_reducible rfl))
                simp only [Act.put, List.setIfInBounds_toArray, List.set_cons_zero, List.set_cons_succ]
                (refine take_at (i := 5) (d := 160) (v := ?_) rfl rfl (by kernel_rfl) (by kernel_rfl) (by kernel_rfl) (fun _ _ _ h => h) (by rfl) ?_ (by assumption) ?_)
                rotate_left
                · (intro W hSW; (try dsimp only at hSW); go_simp; (try with_reducible rfl))
                simp only [Act.put, List.setIfInBounds_toArray, List.set_cons_zero, List.set_cons_succ]
                (refine take_at (i := 6) (d := 161) (v := ?_) rfl rfl (by kernel_rfl) (by kernel_rfl) (by kernel_rfl) (fun _ _ _ h => h) (by rfl) ?_ (by assumption) ?_)
                rotate_left
                · (intro W hSW; (try dsimp only at hSW); go_simp; (try with_reducible rfl))
                simp only [Act.put, List.setIfInBounds_toArray, List.set_cons_zero, List.set_cons_succ]
                (refine take_at (i := 7) (d := 162) (v := ?_) rfl rfl (by kernel_rfl) (by kernel_rfl) (by kernel_rfl) (fun _ _ _ h => h) (by rfl) ?_ (by assumption) ?_)
                rotate_left
                · (intro W hSW; (try dsimp only at hSW); go_simp; (try with_reducible rfl))
                simp only [Act.put, List.setIfInBounds_toArray, List.set_cons_zero, List.set_cons_succ]
                (refine take_at (i := 8) (d := 163) (v := ?_) rfl rfl (by kernel_rfl) (by kernel_rfl) (by kernel_rfl) (fun _ _ _ h => h) (by rfl) ?_ (by assumption) ?_)
                rotate_left
                · (intro W hSW; (try dsimp only at hSW); go_simp; (try with_reducible rfl))
                simp only [Act.put, List.setIfInBounds_toArray, List.set_cons_zero, List.set_cons_succ]
                (refine take_at (i := 9) (d := 164) (v := ?_) rfl rfl (by kernel_rfl) (by kernel_rfl) (by kernel_rfl) (fun _ _ _ h => h) (by rfl) ?_ (by assumption) ?_)
                rotate_left
                · (intro W hSW; (try dsimp only at hSW); go_simp; (try with_reducible rfl))
                simp only [Act.put, List.setIfInBounds_toArray, List.set_cons_zero, List.set_cons_succ]
                (refine take_at (i := 10) (d := 165) (v := ?_) rfl rfl (by kernel_rfl) (by kernel_rfl) (by kernel_rfl) (fun _ _ _ h => h) (by rfl) ?_ (by assumption) ?_)
                rotate_left
                · (intro W hSW; (try dsimp only at hSW); go_simp; (try with_reducible rfl))
                simp only [Act.put, List.setIfInBounds_toArray, List.set_cons_zero, List.set_cons_succ]
                (refine take_at (i := 11) (d := 166) (v := ?_) rfl rfl (by kernel_rfl) (by kernel_rfl) (by kernel_rfl) (fun _ _ _ h => h) (by rfl) ?_ (by assumption) ?_)
                rotate_left
                · (intro W hSW; (try dsimp only at hSW); go_simp; (try with_reducible rfl))
                simp only [Act.put, List.setIfInBounds_toArray, List.set_cons_zero, List.set_cons_succ]
                (refine take_at (i := 12) (d := 167) (v := ?_) rfl rfl (by kernel_rfl) (by kernel_rfl) (by kernel_rfl) (fun _ _ _ h => h) (by rfl) ?_ (by assumption) ?_)
                rotate_left
                · (intro W hSW; (try dsimp only at hSW); go_simp; (try with_reducible rfl))
                simp only [Act.put, List.setIfInBounds_toArray, List.set_cons_zero, List.set_cons_succ]
                (refine take_at (i := 13) (d := 168) (v := ?_) rfl rfl (by kernel_rfl) (by kernel_rfl) (by kernel_rfl) (fun _ _ _ h => h) (by rfl) ?_ (by assumption) ?_)
                rotate_left
                · (intro W hSW; (try dsimp only at hSW); go_simp; (try with_reducible rfl))
                simp only [Act.put, List.setIfInBounds_toArray, List.set_cons_zero, List.set_cons_succ]
                (refine take_at (i := 14) (d := 169) (v := ?_) rfl rfl (by kernel_rfl) (by kernel_rfl) (by kernel_rfl) (fun _ _ _ h => h) (by rfl) ?_ (by assumption) ?_)
                rotate_left
                · (intro W hSW; (try dsimp only at hSW); go_simp; (try with_reducible rfl))
                simp only [Act.put, List.setIfInBounds_toArray, List.set_cons_zero, List.set_cons_succ]
                (refine take_at (i := 15) (d := 170) (v := ?_) rfl rfl (by kernel_rfl) (by kernel_rfl) (by kernel_rfl) (fun _ _ _ h => h) (by rfl) ?_ (by assumption) ?_)
                rotate_left
                · (intro W hSW; (try dsimp only at hSW); go_simp; (try with_reducible rfl))
                simp only [Act.put, List.setIfInBounds_toArray, List.set_cons_zero, List.set_cons_succ]
                (refine take_at (i := 16) (d := 171) (v := ?_) rfl rfl (by kernel_rfl) (by kernel_rfl) (by kernel_rfl) (fun _ _ _ h => h) (by rfl) ?_ (by assumption) ?_)
                rotate_left
                · (intro W hSW; (try dsimp only at hSW); go_simp; (try with_reducible rfl))
                simp only [Act.put, List.setIfInBounds_toArray, List.set_cons_zero, List.set_cons_succ]
                (refine take_at (i := 17) (d := 172) (v := ?_) rfl rfl (by kernel_rfl) (by kernel_rfl) (by kernel_rfl) (fun _ _ _ h => h) (by rfl) ?_ (by assumption) ?_)
                rotate_left
                · (intro W hSW; (try dsimp only at hSW); go_simp; (try with_reducible rfl))
                simp only [Act.put, List.setIfInBounds_toArray, List.set_cons_zero, List.set_cons_succ]
                (refine take_at (i := 18) (d := 173) (v := ?_) rfl rfl (by kernel_rfl) (by kernel_rfl) (by kernel_rfl) (fun _ _ _ h => h) (by rfl) ?_ (by assumption) ?_)
                rotate_left
                · (intro W hSW; (try dsimp only at hSW); go_simp; (try with_reducible rfl))
                simp only [Act.put, List.setIfInBounds_toArray, List.set_cons_zero, List.set_cons_succ]
                (refine take_at (i := 19) (d := 174) (v := ?_) rfl rfl (by kernel_rfl) (by kernel_rfl) (by kernel_rfl) (fun _ _ _ h => h) (by rfl) ?_ (by assumption) ?_)
                rotate_left
                · (intro W hSW; (try dsimp only at hSW); go_simp; (try with_reducible rfl))
                simp only [Act.put, List.setIfInBounds_toArray, List.set_cons_zero, List.set_cons_succ]
                (refine take_at (i := 20) (d := 175) (v := ?_) rfl rfl (by kernel_rfl) (by kernel_rfl) (by kernel_rfl) (fun _ _ _ h => h) (by rfl) ?_ (by assumption) ?_)
                rotate_left
                · (intro W hSW; (try dsimp only at hSW); go_simp; (try with_reducible rfl))
                simp only [Act.put, List.setIfInBounds_toArray, List.set_cons_zero, List.set_cons_succ]
                (refine take_at (i := 21) (d := 176) (v := ?_) rfl rfl (by kernel_rfl) (by kernel_rfl) (by kernel_rfl) (fun _ _ _ h => h) (by rfl) ?_ (by assumption) ?_)
                rotate_left
                · (intro W hSW; (try dsimp only at hSW); go_simp; (try with_reducible rfl))
                simp only [Act.put, List.setIfInBounds_toArray, List.set_cons_zero, List.set_cons_succ]
                (refine take_at (i := 22) (d := 177) (v := ?_) rfl rfl (by kernel_rfl) (by kernel_rfl) (by kernel_rfl) (fun _ _ _ h => h) (by rfl) ?_ (by assumption) ?_)
                rotate_left
                · (intro W hSW; (try dsimp only at hSW); go_simp; (try with_reducible rfl))
                simp only [Act.put, List.setIfInBounds_toArray, List.set_cons_zero, List.set_cons_succ]
                (refine take_at (i := 23) (d := 178) (v := ?_) rfl rfl (by kernel_rfl) (by kernel_rfl) (by kernel_rfl) (fun _ _ _ h => h) (by rfl) ?_ (by assumption) ?_)
                rotate_left
                · (intro W hSW; (try dsimp only at hSW); go_simp; (try with_reducible rfl))
                simp only [Act.put, List.setIfInBounds_toArray, List.set_cons_zero, List.set_cons_succ]
                (refine take_at (i := 24) (d := 179) (v := ?_) rfl rfl (by kernel_rfl) (by kernel_rfl) (by kernel_rfl) (fun _ _ _ h => h) (by rfl) ?_ (by assumption) ?_)
                rotate_left
                · (intro W hSW; (try dsimp only at hSW); go_simp; (try with_reducible rfl))
                simp only [Act.put, List.setIfInBounds_toArray, List.set_cons_zero, List.set_cons_succ]
                (refine take_at (i := 25) (d := 180) (v := ?_) rfl rfl (by kernel_rfl) (by kernel_rfl) (by kernel_rfl) (fun _ _ _ h => h) (by rfl) ?_ (by assumption) ?_)
                rotate_left
                · (intro W hSW; (try dsimp only at hSW); go_simp; (try with_reducible rfl))
                simp only [Act.put, List.setIfInBounds_toArray, List.set_cons_zero, List.set_cons_succ]
                (refine take_at (i := 26) (d := 181) (v := ?_) rfl rfl (by kernel_rfl) (by kernel_rfl) (by kernel_rfl) (fun _ _ _ h => h) (by rfl) ?_ (by assumption) ?_)
                rotate_left
                · (intro W hSW; (try dsimp only at hSW); go_simp; (try with_reducible rfl))
                simp only [Act.put, List.setIfInBounds_toArray, List.set_cons_zero, List.set_cons_succ]
                (refine take_at (i := 27) (d := 182) (v := ?_) rfl rfl (by kernel_rfl) (by kernel_rfl) (by kernel_rfl) (fun _ _ _ h => h) (by rfl) ?_ (by assumption) ?_)
                rotate_left
                · (intro W hSW; (try dsimp only at hSW); go_simp; (try with_reducible rfl))
                simp only [Act.put, List.setIfInBounds_toArray, List.set_cons_zero, List.set_cons_succ]
                (refine take_at (i := 28) (d := 183) (v := ?_) rfl rfl (by kernel_rfl) (by kernel_rfl) (by kernel_rfl) (fun _ _ _ h => h) (by rfl) ?_ (by assumption) ?_)
                rotate_left
                · (intro W hSW; (try dsimp only at hSW); go_simp; (try with_reducible rfl))
                simp only [Act.put, List.setIfInBounds_toArray, List.set_cons_zero, List.set_cons_succ]
                (refine take_at (i := 29) (d := 184) (v := ?_) rfl rfl (by kernel_rfl) (by kernel_rfl) (by kernel_rfl) (fun _ _ _ h => h) (by rfl) ?_ (by assumption) ?_)
                rotate_left
                · (intro W hSW; (try dsimp only at hSW); go_simp; (try with_reducible rfl))
                simp only [Act.put, List.setIfInBounds_toArray, List.set_cons_zero, List.set_cons_succ]
                (refine take_at (i := 30) (d := 185) (v := ?_) rfl rfl (by kernel_rfl) (by kernel_rfl) (by kernel_rfl) (fun _ _ _ h => h) (by rfl) ?_ (by assumption) ?_)
                rotate_left
                · (intro W hSW; (try dsimp only at hSW); go_simp; (try with_reducible rfl))
                simp only [Act.put, List.setIfInBounds_toArray, List.set_cons_zero, List.set_cons_succ]
                refine skip_at (i := 31) (d := 186) rfl rfl (by kernel_rfl) (by kernel_rfl) (by kernel_rfl) (fun _ _ _ h => h) (by rfl) (by assumption) ?_
                simp only [Act.put, List.setIfInBounds_toArray, List.set_cons_zero, List.set_cons_succ]
                refine skip_at (i := 32) (d := 187) rfl rfl (by kernel_rfl) (by kernel_rfl) (by kernel_rfl) (fun _ _ _ h => h) (by rfl) (by assumption) ?_
                simp only [Act.put, List.setIfInBounds_toArray, List.set_cons_zero, List.set_cons_succ]
                (refine take_at (i := 33) (d := 188) (v := ?_) rfl rfl (by kernel_rfl) (by kernel_rfl) (by kernel_rfl) (fun _ _ _ h => h) (by rfl) ?_ (by assumption) ?_)
                rotate_left
                · (intro W hSW; (try dsimp only at hSW); go_simp; (try with_reducible rfl))
                simp only [Act.put, List.setIfInBounds_toArray, List.set_cons_zero, List.set_cons_succ]
                (refine take_at (i := 34) (d := 189) (v := ?_) rfl rfl (by kernel_rfl) (by kernel_rfl) (by kernel_rfl) (fun _ _ _ h => h) (by rfl) ?_ (by assumption) ?_)
                rotate_left
                · (intro W hSW; (try dsimp only at hSW); go_simp; (try with_reducible rfl))
                simp only [Act.put, List.setIfInBounds_toArray, List.set_cons_zero, List.set_cons_succ]
                refine wpAnyH_done (by kernel_rfl) ?_ _
                go_wp2_with fail
                go_meet
                exact ⟨rfl, 1, rfl⟩
            case rest =>
              obtain ⟨rfl, q, rfl⟩ := hcut
              go_wp2_with fail
              go_roundg (gk - 1)
              case measure => omega
              case rel => exact ⟨k + 1, s2, by omega, by go_num, hs2, hI3.drewN q⟩
    · have hend : decide (k < len) = false ∨ (decide (k < len) = true ∧ decide ((k : Int) < 150) = false) := by
        by_cases h : k < len
        · right; simp; omega
        · left; simp; omega
      rcases hend with e1 | ⟨e1, e2⟩
      · go_wp2_with fail
        go_ret
        exact ⟨rfl, hI.old⟩
      · go_wp2_with fail
        go_ret
        exact ⟨rfl, hI.old⟩

theorem plays_w (size at_ : Int) (ad : Option Addr) (len cap : Nat) (w : World) (hc : Acts w ad len) :
    Calls Try.prog 3 #[.int .i64 size, .slice ad len cap, .int .i64 at_] w fun e w' => e = .returned (.bool true) ∧ Below w.heap.size w w' := by
  by_cases h1 : size < 1 ∨ 4096 < size
  · exact plays_wrong size at_ ad len cap w h1
  · by_cases h2 : 40 < size
    · exact plays_big size at_ ad len cap w ⟨h2, by omega⟩
    · obtain ⟨k, rfl⟩ := Int.eq_ofNat_of_zero_le (show 0 ≤ size by omega)
      exact plays_main k at_ ad len cap w (by omega) (by omega) hc

end Go.Proofs.Ytfegajcjiclbdaa.Rg
