/- The law CablePlays answers true: whatever is sent, taken, copied, dropped, spoilt and cut. (Written by gen/cbplays.py.) -/
import Derived.Test.YtfifoikphhjomaaCbDo
import Derived.Test.YtfifoikphhjomaaCbActs
import Derived.Deep.RegionHeld3
import Derived.Deep.RegionWith
import Derived.Deep.DrawnRows
namespace Go.Proofs.Ytfifoikphhjomaa.Cb
open Go.RowKit Go.Proofs.Ytfifoikphhjomaa.Rg
set_option linter.unusedVariables false
set_option linter.unusedSimpArgs false
attribute [local go_sem ↓] Go.wp_at_zero Go.wp_at_succ

theorem take_at {P : Program} {ops : Array Oper} {Q : Exit → Act → World → Prop} {md : Region.Mode} {S : World → Prop} {i d : Nat} {oi : Oper} {v : Value} {fuel : Nat} {listed : Array Bool} {a : Act} {w : World} (hi : ops[i]? = some oi) (hd : oi.dst = some d)
    (hs : Region.noSelect ops = true) (hf : Region.free md ops listed i = true) (hr : (Region.ready md ops listed).contains i = true)
    (hQ : ∀ c a w, Q (.panic c) (a.put oi.dst v) w → Q (.panic c) a w) (hw : Region.wanted oi (yielded ops a.tmps) = true) (hy : ∀ w, S w → (execOp a.eval oi).run P w = .ok (.value v) w) (hS : S w)
    (h : wpAnyH P md ops Q S fuel (listed.setIfInBounds i true) (a.put (some d) v) w) : wpAnyH P md ops Q S (fuel + 1) listed a w :=
  wpAnyH_take hi hs hf hr hQ (.inl ⟨hw, hy⟩) hS (by rw [hd]; exact h)

theorem held_mono {P : Program} {ops : Array Oper} {Q : Exit → Act → World → Prop} {md : Region.Mode} {S S' : World → Prop} (hs : ∀ w, S' w → S w) : ∀ (fuel : Nat) (listed : Array Bool) (a : Act) (w : World), wpAnyH P md ops Q S' fuel listed a w → wpAnyH P md ops Q S fuel listed a w
  | 0, _, _, _, h => h
  | fuel + 1, _, _, _, h => ⟨h.1, fun i hi => wpOp_mono (fun a' w' h' => ⟨hs w' h'.1, held_mono hs fuel _ a' w' h'.2⟩) (h.2 i hi)⟩

set_option maxRecDepth 100000 in
theorem plays_wrong (size : Int) (ad : Option Addr) (len cap : Nat) (w : World) (h : ¬ (1 ≤ size ∧ size ≤ 64)) :
    Calls Try.prog 3 #[.int .i64 size, .slice ad len cap] w fun e w' => e = .returned (.bool true) ∧ Below w.heap.size w w' := by
  have H := hid h
  by_cases h0 : size < 1
  · have d3 : decide (size < 1) = true := by simpa using h0
    clear h
    go_enter Try.func3, Try.ntmps3
    go_wp2_with (first
      | (go_at_call 6; ((with_reducible refine (awake_c _).mono ?_); rintro e w1 ⟨rfl, hB⟩))
      | (go_at_call 7; ((with_reducible refine (cnew_no _ H.out _).mono ?_); rintro e w2 ⟨rfl, rfl⟩)))
    go_ret
    exact ⟨rfl, hB⟩
  · have d3 : decide (size < 1) = false := by simpa using h0
    have d4 : decide (64 < size) = true := by simp; omega
    clear h
    go_enter Try.func3, Try.ntmps3
    go_wp2_with (first
      | (go_at_call 6; ((with_reducible refine (awake_c _).mono ?_); rintro e w1 ⟨rfl, hB⟩))
      | (go_at_call 7; ((with_reducible refine (cnew_no _ H.out _).mono ?_); rintro e w2 ⟨rfl, rfl⟩)))
    go_ret
    exact ⟨rfl, hB⟩

theorem both_new {w w1 w2 : World} {size : Nat} (hB1 : Below w.heap.size w w1) (hB2 : Below w1.heap.size w1 w2) {bs : Nat → Nat} {caps : Nat → Nat} (hc : Cab w2 w.heap.size size w1.heap.size bs (fun _ => none) caps ⟨fun _ => [], 0⟩) :
    Both w (w2.alloc (.cells #[.int .i64 size, .slice none 0 0, .slice none 0 0, .int .i64 0] 32)) w1.heap.size w2.heap.size size ⟨fun _ => [], 0⟩ ⟨fun _ => [], 0⟩ := by
  have hB3 : Below w.heap.size w w2 := hB1.trans (hB2.mono hB1.size)
  refine ⟨⟨bs, _, caps, fun _ => none, fun _ => 0, hc.old ((Below.refl _ w2).alloc (Nat.le_refl _) _), ⟨heap_alloc_new w2 _, hB3.size, fun t ht => World.ownsRow_nil _ _ _ _⟩, ?_⟩, hB3.alloc hB3.size _⟩
  rintro i hi (rfl | ⟨t, _, a, ha, _⟩)
  · have := hc.footLt _ hi
    omega
  · cases ha

set_option maxRecDepth 100000 in
set_option maxHeartbeats 8000000 in
theorem plays_main (size : Nat) (ad : Option Addr) (len cap : Nat) (w : World) (h1 : 1 ≤ size) (h2 : size ≤ 64) (hc : Acts w ad len) :
    Calls Try.prog 3 #[.int .i64 size, .slice ad len cap] w fun e w' => e = .returned (.bool true) ∧ Below w.heap.size w w' := by
  have d3 : decide ((size : Int) < 1) = false := by simp; omega
  have d4 : decide (64 < (size : Int)) = false := by simp; omega
  go_enter Try.func3, Try.ntmps3
  go_wp2_with fail
  refine (awake_c _).mono ?_
  rintro e w1 ⟨rfl, hB1⟩
  go_wp2_with fail
  refine (cnew_c w.heap.size size ⟨h1, h2⟩ _ hB1.size).mono ?_
  rintro e w2 ⟨rfl, hr, hB2⟩
  go_wp2_with fail
  have hm0 := both_new hB1 hB2 hr
  generalize w2.alloc (.cells #[.int .i64 size, .slice none 0 0, .slice none 0 0, .int .i64 0] 32) = w3 at hm0 ⊢
  generalize w1.heap.size = b at hm0 ⊢
  generalize w2.heap.size = m at hm0 ⊢
  clear hr hB1 hB2 d3 d4
  go_loopg [8] 150 (fun gk i wr => ∃ (k : Nat) (st : St), gk + k = 150 ∧ i = .int .i64 k ∧ Ok size st ∧ total st ≤ k ∧ Both w wr b m size st st)
  case atStart => exact ⟨0, ⟨fun _ => [], 0⟩, rfl, rfl, Ok.new size, Nat.le_refl _, hm0⟩
  case round =>
    obtain ⟨k, st, hk, rfl, ok, hl, hI⟩ := hrel
    clear hm0
    by_cases hlt : k < len ∧ k < 150
    · obtain ⟨hlt, hk1⟩ := hlt
      obtain ⟨c, off, x, rfl, hcl, hin, c0, c1, c2, c3, c4, c5⟩ := hc k hlt
      have Hc : Hid (∀ W : World, Below w.heap.size w W → W.cell? ⟨c, off + k * 6, none⟩ = some (.int .i64 x.kd) ∧ W.cell? ⟨c, off + k * 6 + 1, none⟩ = some (.int .i64 x.dd) ∧ W.cell? ⟨c, off + k * 6 + 2, none⟩ = some (.int .i64 x.i) ∧ W.cell? ⟨c, off + k * 6 + 3, none⟩ = some (.string x.s) ∧ W.cell? ⟨c, off + k * 6 + 4, none⟩ = some (.int .i64 x.at_) ∧ W.cell? ⟨c, off + k * 6 + 5, none⟩ = some (.int .u8 x.by_)) := fun W hW =>
        ⟨(hW.cell (p := ⟨c, off + k * 6, none⟩) hcl).trans c0, (hW.cell (p := ⟨c, off + k * 6 + 1, none⟩) hcl).trans c1, (hW.cell (p := ⟨c, off + k * 6 + 2, none⟩) hcl).trans c2, (hW.cell (p := ⟨c, off + k * 6 + 3, none⟩) hcl).trans c3, (hW.cell (p := ⟨c, off + k * 6 + 4, none⟩) hcl).trans c4, (hW.cell (p := ⟨c, off + k * 6 + 5, none⟩) hcl).trans c5⟩
      clear c0 c1 c2 c3 c4 c5
      obtain ⟨c0, c1, c2, c3, c4, c5⟩ := Hc.out wr hI.old
      have hby := hin.2
      have e1 : ((k : Int) < (150 : Int)) := by omega
      by_cases hbig : 400 < x.s.size
      · have d5 : decide (400 < (x.s.size : Int)) = true := by simp; omega
        go_wp2_with fail
        go_roundg (149 - k)
        case measure => omega
        case rel => exact ⟨k + 1, st, by omega, by go_num, ok, by omega, hI⟩
      · have d5 : decide (400 < (x.s.size : Int)) = false := by simp; omega
        go_upto_region 11 with (fail)
        have hId := hI.drewN 1
        obtain ⟨ok', hl'⟩ := play_ok ok x
        have hl90 : total st ≤ 90000 := by omega
        have HT := hid hl'
        have HF0 : Hid (∀ L : Nat → List ByteArray, flyL L 0 = L 0) := fun L => fly_in L (t := 0) (by omega)
        have HF1 : Hid (∀ L : Nat → List ByteArray, flyL L 1 = L 1) := fun L => fly_in L (t := 1) (by omega)
        refine wp_region_held_drew (S := fun W => W.cell? ⟨c, off + k * 6, none⟩ = some (.int .i64 x.kd) ∧ W.cell? ⟨c, off + k * 6 + 1, none⟩ = some (.int .i64 x.dd) ∧ W.cell? ⟨c, off + k * 6 + 2, none⟩ = some (.int .i64 x.i) ∧ W.cell? ⟨c, off + k * 6 + 3, none⟩ = some (.string x.s) ∧ W.cell? ⟨c, off + k * 6 + 4, none⟩ = some (.int .i64 x.at_) ∧ W.cell? ⟨c, off + k * 6 + 5, none⟩ = some (.int .u8 x.by_)) (by kernel_rfl) ⟨c0, c1, c2, c3, c4, c5⟩ (fun hHeld => ?_)
        (refine take_at (i := 0) (d := 48) (v := ?_) rfl rfl (by kernel_rfl) (by kernel_rfl) (by kernel_rfl) (fun _ _ _ h => h) (by rfl) ?_ (by assumption) ?_)
        rotate_left
        · (intro W hSW; (try dsimp only at hSW); go_simp; (try with_reducible rfl))
        simp only [Act.put, List.setIfInBounds_toArray, List.set_cons_zero, List.set_cons_succ]
        (refine take_at (i := 1) (d := 49) (v := ?_) rfl rfl (by kernel_rfl) (by kernel_rfl) (by kernel_rfl) (fun _ _ _ h => h) (by rfl) ?_ (by assumption) ?_)
        rotate_left
        · (intro W hSW; (try dsimp only at hSW); go_simp; (try with_reducible rfl))
        simp only [Act.put, List.setIfInBounds_toArray, List.set_cons_zero, List.set_cons_succ]
        (refine take_at (i := 2) (d := 50) (v := ?_) rfl rfl (by kernel_rfl) (by kernel_rfl) (by kernel_rfl) (fun _ _ _ h => h) (by rfl) ?_ (by assumption) ?_)
        rotate_left
        · (intro W hSW; (try dsimp only at hSW); go_simp; (try with_reducible rfl))
        simp only [Act.put, List.setIfInBounds_toArray, List.set_cons_zero, List.set_cons_succ]
        (refine take_at (i := 3) (d := 51) (v := ?_) rfl rfl (by kernel_rfl) (by kernel_rfl) (by kernel_rfl) (fun _ _ _ h => h) (by rfl) ?_ (by assumption) ?_)
        rotate_left
        · (intro W hSW; (try dsimp only at hSW); go_simp; (try with_reducible rfl))
        simp only [Act.put, List.setIfInBounds_toArray, List.set_cons_zero, List.set_cons_succ]
        (refine take_at (i := 4) (d := 52) (v := ?_) rfl rfl (by kernel_rfl) (by kernel_rfl) (by kernel_rfl) (fun _ _ _ h => h) (by rfl) ?_ (by assumption) ?_)
        rotate_left
        · (intro W hSW; (try dsimp only at hSW); go_simp; (try with_reducible rfl))
        simp only [Act.put, List.setIfInBounds_toArray, List.set_cons_zero, List.set_cons_succ]
        (refine take_at (i := 5) (d := 53) (v := ?_) rfl rfl (by kernel_rfl) (by kernel_rfl) (by kernel_rfl) (fun _ _ _ h => h) (by rfl) ?_ (by assumption) ?_)
        rotate_left
        · (intro W hSW; (try dsimp only at hSW); go_simp; (try with_reducible rfl))
        simp only [Act.put, List.setIfInBounds_toArray, List.set_cons_zero, List.set_cons_succ]
        refine wpAnyH_ready (rs := [6]) (by kernel_rfl) (by simp) ?_
        refine AllReadyH.cons (i := 6) rfl (fun K hK => ?_) AllReadyH.nil
        go_simp
        refine (does_c w _ b m size st x hId ok h2 hl90 hby).mono ?_
        rintro e w6 ⟨rfl, hI6⟩
        have hX := Hc.out w6 hI6.old
        clear hId hI
        generalize playSt size st x = st' at hI6 ok' hl' HT
        obtain ⟨bs, aos, caps, aom, capm, hcab, hmir, hap⟩ := hI6.ex
        obtain ⟨m3, mf, q0, p0, q1, p1, m1, m2⟩ := hI6.cells
        have hl3 := hcab.cell2
        dsimp only
        refine hK.out _ _ hX (fun hHeld => ?_)
        clear hK K
        (try simp only [Act.put, List.setIfInBounds_toArray, List.set_cons_zero, List.set_cons_succ])
        clear hHeld
        refine held_mono (S' := fun W => (W.cell? ⟨c, off + k * 6, none⟩ = some (.int .i64 x.kd) ∧ W.cell? ⟨c, off + k * 6 + 1, none⟩ = some (.int .i64 x.dd) ∧ W.cell? ⟨c, off + k * 6 + 2, none⟩ = some (.int .i64 x.i) ∧ W.cell? ⟨c, off + k * 6 + 3, none⟩ = some (.string x.s) ∧ W.cell? ⟨c, off + k * 6 + 4, none⟩ = some (.int .i64 x.at_) ∧ W.cell? ⟨c, off + k * 6 + 5, none⟩ = some (.int .u8 x.by_)) ∧ (W.cell? ⟨m, 1, none⟩ = some (.slice q0 (st'.L 0).length p0) ∧ W.cell? ⟨m, 2, none⟩ = some (.slice q1 (st'.L 1).length p1) ∧ W.cell? ⟨m, 3, none⟩ = some (.int .i64 st'.lost))) (fun _ h => h.1) _ _ _ _ ?_
        have hHeld : (fun W : World => (W.cell? ⟨c, off + k * 6, none⟩ = some (.int .i64 x.kd) ∧ W.cell? ⟨c, off + k * 6 + 1, none⟩ = some (.int .i64 x.dd) ∧ W.cell? ⟨c, off + k * 6 + 2, none⟩ = some (.int .i64 x.i) ∧ W.cell? ⟨c, off + k * 6 + 3, none⟩ = some (.string x.s) ∧ W.cell? ⟨c, off + k * 6 + 4, none⟩ = some (.int .i64 x.at_) ∧ W.cell? ⟨c, off + k * 6 + 5, none⟩ = some (.int .u8 x.by_)) ∧ (W.cell? ⟨m, 1, none⟩ = some (.slice q0 (st'.L 0).length p0) ∧ W.cell? ⟨m, 2, none⟩ = some (.slice q1 (st'.L 1).length p1) ∧ W.cell? ⟨m, 3, none⟩ = some (.int .i64 st'.lost))) w6 := ⟨hX, m1, m2, m3⟩
        (refine take_at (i := 7) (d := 55) (v := ?_) rfl rfl (by kernel_rfl) (by kernel_rfl) (by kernel_rfl) (fun _ _ _ h => h) (by rfl) ?_ (by assumption) ?_)
        rotate_left
        · (intro W hSW; (try dsimp only at hSW); go_simp; (try with_reducible rfl))
        simp only [Act.put, List.setIfInBounds_toArray, List.set_cons_zero, List.set_cons_succ]
        (refine take_at (i := 8) (d := 56) (v := ?_) rfl rfl (by kernel_rfl) (by kernel_rfl) (by kernel_rfl) (fun _ _ _ h => h) (by rfl) ?_ (by assumption) ?_)
        rotate_left
        · (intro W hSW; (try dsimp only at hSW); go_simp; (try with_reducible rfl))
        simp only [Act.put, List.setIfInBounds_toArray, List.set_cons_zero, List.set_cons_succ]
        (refine take_at (i := 9) (d := 57) (v := ?_) rfl rfl (by kernel_rfl) (by kernel_rfl) (by kernel_rfl) (fun _ _ _ h => h) (by rfl) ?_ (by assumption) ?_)
        rotate_left
        · (intro W hSW; (try dsimp only at hSW); go_simp; (try with_reducible rfl))
        simp only [Act.put, List.setIfInBounds_toArray, List.set_cons_zero, List.set_cons_succ]
        (refine take_at (i := 11) (d := 59) (v := ?_) rfl rfl (by kernel_rfl) (by kernel_rfl) (by kernel_rfl) (fun _ _ _ h => h) (by rfl) ?_ (by assumption) ?_)
        rotate_left
        · (intro W hSW; (try dsimp only at hSW); go_simp; (try with_reducible rfl))
        simp only [Act.put, List.setIfInBounds_toArray, List.set_cons_zero, List.set_cons_succ]
        (refine take_at (i := 12) (d := 60) (v := ?_) rfl rfl (by kernel_rfl) (by kernel_rfl) (by kernel_rfl) (fun _ _ _ h => h) (by rfl) ?_ (by assumption) ?_)
        rotate_left
        · (intro W hSW; (try dsimp only at hSW); go_simp; (try with_reducible rfl))
        simp only [Act.put, List.setIfInBounds_toArray, List.set_cons_zero, List.set_cons_succ]
        (refine take_at (i := 13) (d := 61) (v := ?_) rfl rfl (by kernel_rfl) (by kernel_rfl) (by kernel_rfl) (fun _ _ _ h => h) (by rfl) ?_ (by assumption) ?_)
        rotate_left
        · (intro W hSW; (try dsimp only at hSW); go_simp; (try with_reducible rfl))
        simp only [Act.put, List.setIfInBounds_toArray, List.set_cons_zero, List.set_cons_succ]
        (refine take_at (i := 14) (d := 62) (v := ?_) rfl rfl (by kernel_rfl) (by kernel_rfl) (by kernel_rfl) (fun _ _ _ h => h) (by rfl) ?_ (by assumption) ?_)
        rotate_left
        · (intro W hSW; (try dsimp only at hSW); go_simp; (try with_reducible rfl))
        simp only [Act.put, List.setIfInBounds_toArray, List.set_cons_zero, List.set_cons_succ]
        (refine take_at (i := 15) (d := 63) (v := ?_) rfl rfl (by kernel_rfl) (by kernel_rfl) (by kernel_rfl) (fun _ _ _ h => h) (by rfl) ?_ (by assumption) ?_)
        rotate_left
        · (intro W hSW; (try dsimp only at hSW); go_simp; (try with_reducible rfl))
        simp only [Act.put, List.setIfInBounds_toArray, List.set_cons_zero, List.set_cons_succ]
        (refine take_at (i := 16) (d := 64) (v := ?_) rfl rfl (by kernel_rfl) (by kernel_rfl) (by kernel_rfl) (fun _ _ _ h => h) (by rfl) ?_ (by assumption) ?_)
        rotate_left
        · (intro W hSW; (try dsimp only at hSW); go_simp; (try with_reducible rfl))
        simp only [Act.put, List.setIfInBounds_toArray, List.set_cons_zero, List.set_cons_succ]
        refine wpAnyH_ready (rs := [10]) (by kernel_rfl) (by simp) ?_
        refine AllReadyH.cons (i := 10) rfl (fun K hK => ?_) AllReadyH.nil
        go_simp
        refine (flying_c 0 _ _ size b bs aos caps _ hcab).mono ?_
        rintro e w7 ⟨rfl, rfl⟩
        rw [HF0.out]
        dsimp only
        refine hK.out _ _ ⟨hX, m1, m2, m3⟩ (fun hHeld => ?_)
        clear hK K
        (try simp only [Act.put, List.setIfInBounds_toArray, List.set_cons_zero, List.set_cons_succ])
        (refine take_at (i := 17) (d := 65) (v := ?_) rfl rfl (by kernel_rfl) (by kernel_rfl) (by kernel_rfl) (fun _ _ _ h => h) (by rfl) ?_ (by assumption) ?_)
        rotate_left
        · (intro W hSW; (try dsimp only at hSW); go_simp; (try with_reducible rfl))
        simp only [Act.put, List.setIfInBounds_toArray, List.set_cons_zero, List.set_cons_succ]
        (refine take_at (i := 18) (d := 66) (v := ?_) rfl rfl (by kernel_rfl) (by kernel_rfl) (by kernel_rfl) (fun _ _ _ h => h) (by rfl) ?_ (by assumption) ?_)
        rotate_left
        · (intro W hSW; (try dsimp only at hSW); go_simp; (try with_reducible rfl))
        simp only [Act.put, List.setIfInBounds_toArray, List.set_cons_zero, List.set_cons_succ]
        (refine take_at (i := 19) (d := 67) (v := ?_) rfl rfl (by kernel_rfl) (by kernel_rfl) (by kernel_rfl) (fun _ _ _ h => h) (by rfl) ?_ (by assumption) ?_)
        rotate_left
        · (intro W hSW; (try dsimp only at hSW); go_simp; (try with_reducible rfl))
        simp only [Act.put, List.setIfInBounds_toArray, List.set_cons_zero, List.set_cons_succ]
        (refine take_at (i := 20) (d := 68) (v := ?_) rfl rfl (by kernel_rfl) (by kernel_rfl) (by kernel_rfl) (fun _ _ _ h => h) (by rfl) ?_ (by assumption) ?_)
        rotate_left
        · (intro W hSW; (try dsimp only at hSW); go_simp; (try with_reducible rfl))
        simp only [Act.put, List.setIfInBounds_toArray, List.set_cons_zero, List.set_cons_succ]
        (refine take_at (i := 22) (d := 70) (v := ?_) rfl rfl (by kernel_rfl) (by kernel_rfl) (by kernel_rfl) (fun _ _ _ h => h) (by rfl) ?_ (by assumption) ?_)
        rotate_left
        · (intro W hSW; (try dsimp only at hSW); go_simp; (try with_reducible rfl))
        simp only [Act.put, List.setIfInBounds_toArray, List.set_cons_zero, List.set_cons_succ]
        (refine take_at (i := 23) (d := 71) (v := ?_) rfl rfl (by kernel_rfl) (by kernel_rfl) (by kernel_rfl) (fun _ _ _ h => h) (by rfl) ?_ (by assumption) ?_)
        rotate_left
        · (intro W hSW; (try dsimp only at hSW); go_simp; (try with_reducible rfl))
        simp only [Act.put, List.setIfInBounds_toArray, List.set_cons_zero, List.set_cons_succ]
        (refine take_at (i := 24) (d := 72) (v := ?_) rfl rfl (by kernel_rfl) (by kernel_rfl) (by kernel_rfl) (fun _ _ _ h => h) (by rfl) ?_ (by assumption) ?_)
        rotate_left
        · (intro W hSW; (try dsimp only at hSW); go_simp; (try with_reducible rfl))
        simp only [Act.put, List.setIfInBounds_toArray, List.set_cons_zero, List.set_cons_succ]
        (refine take_at (i := 25) (d := 73) (v := ?_) rfl rfl (by kernel_rfl) (by kernel_rfl) (by kernel_rfl) (fun _ _ _ h => h) (by rfl) ?_ (by assumption) ?_)
        rotate_left
        · (intro W hSW; (try dsimp only at hSW); go_simp; (try with_reducible rfl))
        simp only [Act.put, List.setIfInBounds_toArray, List.set_cons_zero, List.set_cons_succ]
        (refine take_at (i := 26) (d := 74) (v := ?_) rfl rfl (by kernel_rfl) (by kernel_rfl) (by kernel_rfl) (fun _ _ _ h => h) (by rfl) ?_ (by assumption) ?_)
        rotate_left
        · (intro W hSW; (try dsimp only at hSW); go_simp; (try with_reducible rfl))
        simp only [Act.put, List.setIfInBounds_toArray, List.set_cons_zero, List.set_cons_succ]
        (refine take_at (i := 27) (d := 75) (v := ?_) rfl rfl (by kernel_rfl) (by kernel_rfl) (by kernel_rfl) (fun _ _ _ h => h) (by rfl) ?_ (by assumption) ?_)
        rotate_left
        · (intro W hSW; (try dsimp only at hSW); go_simp; (try with_reducible rfl))
        simp only [Act.put, List.setIfInBounds_toArray, List.set_cons_zero, List.set_cons_succ]
        refine wpAnyH_ready (rs := [21]) (by kernel_rfl) (by simp) ?_
        refine AllReadyH.cons (i := 21) rfl (fun K hK => ?_) AllReadyH.nil
        go_simp
        refine (flying_c 1 _ _ size b bs aos caps _ hcab).mono ?_
        rintro e w8 ⟨rfl, rfl⟩
        rw [HF1.out]
        dsimp only
        refine hK.out _ _ ⟨hX, m1, m2, m3⟩ (fun hHeld => ?_)
        clear hK K
        (try simp only [Act.put, List.setIfInBounds_toArray, List.set_cons_zero, List.set_cons_succ])
        (refine take_at (i := 28) (d := 76) (v := ?_) rfl rfl (by kernel_rfl) (by kernel_rfl) (by kernel_rfl) (fun _ _ _ h => h) (by rfl) ?_ (by assumption) ?_)
        rotate_left
        · (intro W hSW; (try dsimp only at hSW); go_simp; (try with_reducible rfl))
        simp only [Act.put, List.setIfInBounds_toArray, List.set_cons_zero, List.set_cons_succ]
        (refine take_at (i := 29) (d := 77) (v := ?_) rfl rfl (by kernel_rfl) (by kernel_rfl) (by kernel_rfl) (fun _ _ _ h => h) (by rfl) ?_ (by assumption) ?_)
        rotate_left
        · (intro W hSW; (try dsimp only at hSW); go_simp; (try with_reducible rfl))
        simp only [Act.put, List.setIfInBounds_toArray, List.set_cons_zero, List.set_cons_succ]
        (refine take_at (i := 30) (d := 78) (v := ?_) rfl rfl (by kernel_rfl) (by kernel_rfl) (by kernel_rfl) (fun _ _ _ h => h) (by rfl) ?_ (by assumption) ?_)
        rotate_left
        · (intro W hSW; (try dsimp only at hSW); go_simp; (try with_reducible rfl))
        simp only [Act.put, List.setIfInBounds_toArray, List.set_cons_zero, List.set_cons_succ]
        (refine take_at (i := 31) (d := 79) (v := ?_) rfl rfl (by kernel_rfl) (by kernel_rfl) (by kernel_rfl) (fun _ _ _ h => h) (by rfl) ?_ (by assumption) ?_)
        rotate_left
        · (intro W hSW; (try dsimp only at hSW); go_simp; (try with_reducible rfl))
        simp only [Act.put, List.setIfInBounds_toArray, List.set_cons_zero, List.set_cons_succ]
        (refine take_at (i := 33) (d := 81) (v := ?_) rfl rfl (by kernel_rfl) (by kernel_rfl) (by kernel_rfl) (fun _ _ _ h => h) (by rfl) ?_ (by assumption) ?_)
        rotate_left
        · (intro W hSW; (try dsimp only at hSW); go_simp; (try with_reducible rfl))
        simp only [Act.put, List.setIfInBounds_toArray, List.set_cons_zero, List.set_cons_succ]
        (refine take_at (i := 34) (d := 82) (v := ?_) rfl rfl (by kernel_rfl) (by kernel_rfl) (by kernel_rfl) (fun _ _ _ h => h) (by rfl) ?_ (by assumption) ?_)
        rotate_left
        · (intro W hSW; (try dsimp only at hSW); go_simp; (try with_reducible rfl))
        simp only [Act.put, List.setIfInBounds_toArray, List.set_cons_zero, List.set_cons_succ]
        (refine take_at (i := 35) (d := 83) (v := ?_) rfl rfl (by kernel_rfl) (by kernel_rfl) (by kernel_rfl) (fun _ _ _ h => h) (by rfl) ?_ (by assumption) ?_)
        rotate_left
        · (intro W hSW; (try dsimp only at hSW); go_simp; (try with_reducible rfl))
        simp only [Act.put, List.setIfInBounds_toArray, List.set_cons_zero, List.set_cons_succ]
        (refine take_at (i := 36) (d := 84) (v := ?_) rfl rfl (by kernel_rfl) (by kernel_rfl) (by kernel_rfl) (fun _ _ _ h => h) (by rfl) ?_ (by assumption) ?_)
        rotate_left
        · (intro W hSW; (try dsimp only at hSW); go_simp; (try with_reducible rfl))
        simp only [Act.put, List.setIfInBounds_toArray, List.set_cons_zero, List.set_cons_succ]
        refine wpAnyH_ready (rs := [32]) (by kernel_rfl) (by simp) ?_
        refine AllReadyH.cons (i := 32) rfl (fun K hK => ?_) AllReadyH.nil
        go_simp
        refine (lost_c b _ _ hl3).mono ?_
        rintro e w9 ⟨rfl, rfl⟩
        dsimp only
        refine hK.out _ _ ⟨hX, m1, m2, m3⟩ (fun hHeld => ?_)
        clear hK K
        (try simp only [Act.put, List.setIfInBounds_toArray, List.set_cons_zero, List.set_cons_succ])
        (refine take_at (i := 37) (d := 85) (v := ?_) rfl rfl (by kernel_rfl) (by kernel_rfl) (by kernel_rfl) (fun _ _ _ h => h) (by rfl) ?_ (by assumption) ?_)
        rotate_left
        · (intro W hSW; (try dsimp only at hSW); go_simp; (try with_reducible rfl))
        simp only [Act.put, List.setIfInBounds_toArray, List.set_cons_zero, List.set_cons_succ]
        (refine take_at (i := 38) (d := 86) (v := ?_) rfl rfl (by kernel_rfl) (by kernel_rfl) (by kernel_rfl) (fun _ _ _ h => h) (by rfl) ?_ (by assumption) ?_)
        rotate_left
        · (intro W hSW; (try dsimp only at hSW); go_simp; (try with_reducible rfl))
        simp only [Act.put, List.setIfInBounds_toArray, List.set_cons_zero, List.set_cons_succ]
        refine wpAnyH_done (by kernel_rfl) ?_ _
        go_wp2_with fail
        go_roundg (149 - k)
        case measure => omega
        case rel => exact ⟨k + 1, st', by omega, by go_num, ok', by have := HT.out; omega, hI6⟩
    · have hend : decide (k < len) = false ∨ (decide (k < len) = true ∧ decide ((k : Int) < 150) = false) := by
        by_cases h : k < len
        · right; simp; omega
        · left; simp; omega
      obtain ⟨bs, aos, caps, aom, capm, hcab, hmir, hap⟩ := hI.ex
      have HF2 : Hid (∀ L : Nat → List ByteArray, flyL L 2 = []) := fun L => fly_no L (by decide)
      have HF3 : Hid (∀ L : Nat → List ByteArray, flyL L (-1) = []) := fun L => fly_no L (by decide)
      rcases hend with e1 | ⟨e1, e2⟩
      all_goals
        go_wp2_with fail
        refine (flying_c 2 _ _ size b bs aos caps _ hcab).mono ?_
        rintro e w7 ⟨rfl, rfl⟩
        rw [HF2.out]
        go_wp2_with fail
        refine (flying_c (-1) _ _ size b bs aos caps _ hcab).mono ?_
        rintro e w8 ⟨rfl, rfl⟩
        rw [HF3.out]
        go_wp2_with fail
        go_ret
        exact ⟨rfl, hI.old⟩

theorem plays_w (size : Int) (ad : Option Addr) (len cap : Nat) (w : World) (hc : Acts w ad len) :
    Calls Try.prog 3 #[.int .i64 size, .slice ad len cap] w fun e w' => e = .returned (.bool true) ∧ Below w.heap.size w w' := by
  by_cases h : 1 ≤ size ∧ size ≤ 64
  · obtain ⟨n, rfl⟩ := Int.eq_ofNat_of_zero_le (show 0 ≤ size by omega)
    exact plays_main n ad len cap w (by omega) (by omega) hc
  · exact plays_wrong size ad len cap w h

end Go.Proofs.Ytfifoikphhjomaa.Cb
