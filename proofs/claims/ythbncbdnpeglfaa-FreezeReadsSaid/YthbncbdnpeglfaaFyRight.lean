/- Which shots may be (layer 12, game, as layer 13 takes it). -/
import Derived.Test.YthbncbdnpeglfaaFyEq
import Derived.Test.YthbncbdnpeglfaaShE
import Derived.Deep.DeepCutAuto
import Derived.Deep.RegionWith
namespace Go.Proofs.Ythbncbdnpeglfaa.Gm
open Go.RowKit Go.Proofs.Ythbncbdnpeglfaa.Fx Go.Proofs.Ythbncbdnpeglfaa.Tg
open Go.Proofs.Ythbncbdnpeglfaa.Ev (At)
open Go.Proofs.Ythbncbdnpeglfaa.Sh (In32 vec box insideB)
set_option linter.unusedVariables false

def inB (n a b : Int) : Bool := decide (a ≤ n) && decide (n ≤ b)

theorem within_c (n a b : Int) (w : World) :
    Calls Try.prog 29 #[.int .i64 n, .int .i64 a, .int .i64 b] w fun e w' => e = .returned (.bool (inB n a b)) ∧ w = w' := by
  by_cases h : a ≤ n
  · rw [show inB n a b = decide (n ≤ b) by simp [inB, h]]
    go_enter Try.func29, Try.ntmps29
    go_wp2
    go_ret
    exact ⟨rfl, rfl⟩
  · rw [show inB n a b = false by simp [inB, h]]
    go_enter Try.func29, Try.ntmps29
    go_wp2
    go_ret
    exact ⟨rfl, rfl⟩

theorem results_box1 {fn : Func} {k : Nat} (h : fn.results = #[.cell k 66]) (tmps : Array Value) (W : World) (b : Nat) (hp : tmps[k]?.getD undef = .pointer (some ⟨b, 0, none⟩)) (v0 v1 v2 v3 : Value) (hA : At W b #[v0, v1, v2, v3] 66) :
    (results fn tmps).run Try.prog W = .ok (.agg #[v0, v1, v2, v3]) W := by
  obtain ⟨c0, c1, c2, c3⟩ := hA.four
  simp [results, h, hp, go_sem, c0, c1, c2, c3]

theorem arena_c (w : World) :
    Calls Try.prog 44 #[] w fun e w' => e = .returned abox ∧ Below w.heap.size w w' := by
  go_enter Try.func44, Try.ntmps44
  go_wp2_with fail
  refine bodyPost_ret (results_box1 rfl _ _ w.heap.size rfl _ _ _ _ (At.new w _ _)) rfl ?_
  exact ⟨rfl, Ev.bal (Ev.br w) _⟩

theorem playersbox_c (w : World) :
    Calls Try.prog 43 #[] w fun e w' => e = .returned pbox ∧ Below w.heap.size w w' := by
  have hA := hid (At.new w #[.int .i32 0, .int .i32 0, .int .i32 0, .int .i32 0] 66)
  have hB := hid (Ev.bal (Ev.br w) (.cells #[.int .i32 0, .int .i32 0, .int .i32 0, .int .i32 0] 66))
  go_enter Try.func43, Try.ntmps43
  go_upto_region 1 with fail
  generalize World.alloc w _ = w0 at hA hB ⊢
  have hS := fun W => Sh.shrink_yes (-4194304) (-4194304) 4194304 4194304 262144 (by decide) (by decide) (by decide) (by decide) (by decide) (by decide +kernel) W
  rw [show satI (-4194304 + 262144) = -3932160 by decide +kernel, show satI (4194304 - 262144) = 3932160 by decide +kernel] at hS
  go_upto_region 2 with (first
    | (go_at_call 44; ((with_reducible refine (arena_c _).mono ?_); rintro e w1 ⟨rfl, g1⟩; have HA := hid (hA.out.below g1); have HB := hid (Ev.bt hB.out g1)))
    | (go_at_call 47; ((with_reducible refine (hS _).mono ?_); rintro e w2 ⟨rfl, g2⟩; have HA2 := hid (HA.out.below g2); have HB2 := hid (Ev.bt HB.out g2))))
  have HA3 := hid (HA2.out.more (.cells #[.int .i32 (-3932160), .int .i32 (-3932160), .int .i32 3932160, .int .i32 3932160] 66))
  have HB3 := hid (Ev.bal HB2.out (.cells #[.int .i32 (-3932160), .int .i32 (-3932160), .int .i32 3932160, .int .i32 3932160] 66))
  have HN := hid (At.new w2 #[.int .i32 (-3932160), .int .i32 (-3932160), .int .i32 3932160, .int .i32 3932160] 66)
  have hlt := HA2.out.lt
  clear HA HB HA2 HB2
  generalize World.alloc w2 _ = w3 at HA3 HB3 HN ⊢
  obtain ⟨c0, c1, c2, c3⟩ := HN.out.four
  obtain ⟨d0, d1, d2, d3⟩ := HA3.out.four
  have f := HA3.out.frozen
  go_wp2_with fail
  refine bodyPost_ret (results_box1 rfl _ _ w.heap.size rfl _ _ _ _ (HA3.out.put4 _ _ _ _)) rfl ?_
  exact ⟨rfl, Sh.bset4 HB3.out (Nat.le_refl _) _ _ _ _⟩

abbrev plA (p : Pl) : Array Value := #[.int .i32 p.ax, .int .i32 p.ay, .int .i32 p.vx, .int .i32 p.vy, .int .i64 p.fa, .int .i64 p.hp, .int .i64 p.co, .int .i64 p.wi, .int .i64 p.dn, .int .i64 p.sc]

abbrev buA (x : Bu) : Array Value := #[.int .i32 x.ax, .int .i32 x.ay, .int .i32 x.vx, .int .i32 x.vy, .int .i64 x.ow, .int .i64 x.li]

theorem at_bu {w : World} {b : Nat} {x : Bu} {T : TypeId} (h : At w b (buA x) T) : w.cell? ⟨b, 0, none⟩ = some (.int .i32 x.ax) ∧ w.cell? ⟨b, 1, none⟩ = some (.int .i32 x.ay) ∧ w.cell? ⟨b, 2, none⟩ = some (.int .i32 x.vx) ∧ w.cell? ⟨b, 3, none⟩ = some (.int .i32 x.vy) ∧ w.cell? ⟨b, 4, none⟩ = some (.int .i64 x.ow) ∧ w.cell? ⟨b, 5, none⟩ = some (.int .i64 x.li) := by
  have hc := fun j => cell_of_row w b j _ _ _ h
  refine ⟨?_, ?_, ?_, ?_, ?_, ?_⟩ <;> (rw [hc]; rfl)

theorem at_pl {w : World} {b : Nat} {x : Pl} {T : TypeId} (h : At w b (plA x) T) : w.cell? ⟨b, 0, none⟩ = some (.int .i32 x.ax) ∧ w.cell? ⟨b, 1, none⟩ = some (.int .i32 x.ay) ∧ w.cell? ⟨b, 2, none⟩ = some (.int .i32 x.vx) ∧ w.cell? ⟨b, 3, none⟩ = some (.int .i32 x.vy) ∧ w.cell? ⟨b, 4, none⟩ = some (.int .i64 x.fa) ∧ w.cell? ⟨b, 5, none⟩ = some (.int .i64 x.hp) ∧ w.cell? ⟨b, 6, none⟩ = some (.int .i64 x.co) ∧ w.cell? ⟨b, 7, none⟩ = some (.int .i64 x.wi) ∧ w.cell? ⟨b, 8, none⟩ = some (.int .i64 x.dn) ∧ w.cell? ⟨b, 9, none⟩ = some (.int .i64 x.sc) := by
  have hc := fun j => cell_of_row w b j _ _ _ h
  refine ⟨?_, ?_, ?_, ?_, ?_, ?_, ?_, ?_, ?_, ?_⟩ <;> (rw [hc]; rfl)

theorem takeW {P : Program} {ops : Array Oper} {Q : Exit → Act → World → Prop} {md : Region.Mode} {S : World → Prop} {i d : Nat} {oi : Oper} {v : Value} {fuel : Nat} {listed : Array Bool} {a : Act} {w : World} (hi : ops[i]? = some oi) (hd : oi.dst = some d)
    (hs : Region.noSelect ops = true) (hf : Region.free md ops listed i = true) (hr : (Region.ready md ops listed).contains i = true)
    (hQ : ∀ c a w, Q (.panic c) (a.put oi.dst v) w → Q (.panic c) a w) (hw : Region.wanted oi (yielded ops a.tmps) = true) (hy : ∀ w, S w → (execOp a.eval oi).run P w = .ok (.value v) w) (hS : S w)
    (h : wpAnyH P md ops Q S fuel (listed.setIfInBounds i true) (a.put (some d) v) w) : wpAnyH P md ops Q S (fuel + 1) listed a w :=
  wpAnyH_take hi hs hf hr hQ (.inl ⟨hw, hy⟩) hS (by rw [hd]; exact h)

theorem skipW {P : Program} {ops : Array Oper} {Q : Exit → Act → World → Prop} {md : Region.Mode} {S : World → Prop} {i d : Nat} {oi : Oper} {fuel : Nat} {listed : Array Bool} {a : Act} {w : World} (hi : ops[i]? = some oi) (hd : oi.dst = some d)
    (hs : Region.noSelect ops = true) (hf : Region.free md ops listed i = true) (hr : (Region.ready md ops listed).contains i = true)
    (hQ : ∀ c a w, Q (.panic c) (a.put oi.dst undef) w → Q (.panic c) a w) (hw : Region.wanted oi (yielded ops a.tmps) = false) (hS : S w)
    (h : wpAnyH P md ops Q S fuel (listed.setIfInBounds i true) (a.put (some d) undef) w) : wpAnyH P md ops Q S (fuel + 1) listed a w :=
  wpAnyH_take hi hs hf hr hQ (.inr ⟨hw, rfl⟩) hS (by rw [hd]; exact h)

set_option maxRecDepth 100000 in
theorem isfree_c (x : Bu) (w : World) :
    Calls Try.prog 31 #[buV x] w fun e w' => e = .returned (.bool (decide (x = zeroB))) ∧ Below w.heap.size w w' := by
  have hg := guardB
  have he : ∀ w, (binOp .eql 30 (buV x) (.agg #[.int .i32 0, .int .i32 0, .int .i32 0, .int .i32 0, .int .i64 0, .int .i64 0])).run Try.prog w = .ok (.bool (decide (x = zeroB))) w := fun w => eqB x zeroB w
  go_enter Try.func31, Try.ntmps31
  go_wp2_with fail
  go_ret
  exact ⟨rfl, Ev.bal (Ev.br w) _⟩

def flyB (x : Bu) : Bool := inB x.ow 1 2 && (inB x.li 1 40 && insideB (-4194304) (-4194304) 4194304 4194304 x.ax x.ay)

set_option maxRecDepth 100000 in
set_option maxHeartbeats 2000000 in
theorem mayfly_c (x : Bu) (w : World) :
    Calls Try.prog 32 #[buV x] w fun e w' => e = .returned (.bool (flyB x)) ∧ Below w.heap.size w w' := by
  unfold flyB
  have HX := hid (At.new w (buA x) 30)
  have HB := hid (Ev.bal (Ev.br w) (.cells (buA x) 30))
  cases h1 : inB x.ow 1 2
  case false =>
    go_enter Try.func32, Try.ntmps32
    go_upto_region 1 with fail
    generalize World.alloc w _ = w0 at HX HB ⊢
    have hK := hid (fun W (k : Below w0.heap.size w0 W) => at_bu (HX.out.below k))
    refine wp_region_noPanic ?_
    refine wp_region_held_drew (S := (fun W => Below w0.heap.size w0 W)) (by kernel_rfl) (by first | exact Ev.bd1 (Ev.br _) | exact Ev.bdn (Ev.br _) _ | exact Ev.br _) (fun hHeld => ?_)
    (refine takeW (i := 0) (d := 3) (v := ?_) rfl rfl (by kernel_rfl) (by kernel_rfl) (by kernel_rfl) (fun _ _ _ h => h) (by rfl) ?_ (by assumption) ?_)
    rotate_left
    · (intro W hSW; go_simp; (try with_reducible rfl))
    simp only [Act.put, List.setIfInBounds_toArray, List.set_cons_zero, List.set_cons_succ]
    (refine takeW (i := 1) (d := 4) (v := ?_) rfl rfl (by kernel_rfl) (by kernel_rfl) (by kernel_rfl) (fun _ _ _ h => h) (by rfl) ?_ (by assumption) ?_)
    rotate_left
    · (intro W hSW; have hSW2 := hK.out W hSW; go_simp; (try with_reducible rfl))
    simp only [Act.put, List.setIfInBounds_toArray, List.set_cons_zero, List.set_cons_succ]
    refine wpAnyH_ready (rs := [2]) (by kernel_rfl) (by simp) ?_
    refine AllReadyH.cons (i := 2) rfl (fun K hKK => ?_) AllReadyH.nil
    go_simp
    ((refine (within_c _ _ _ _).mono ?_); rintro e w' ⟨rfl, rfl⟩; rw [h1])
    dsimp only
    refine hKK.out _ _ (show Below w0.heap.size w0 _ by first | with_reducible assumption | exact Ev.bdn (Ev.br _) _ | exact Ev.bd1 (Ev.br _) | exact Ev.br _) (fun hHeld => ?_)
    clear hKK K
    (try simp only [Act.put, List.setIfInBounds_toArray, List.set_cons_zero, List.set_cons_succ])
    (refine takeW (i := 3) (d := 6) (v := ?_) rfl rfl (by kernel_rfl) (by kernel_rfl) (by kernel_rfl) (fun _ _ _ h => h) (by rfl) ?_ (by assumption) ?_)
    rotate_left
    · (intro W hSW; go_simp; (try with_reducible rfl))
    simp only [Act.put, List.setIfInBounds_toArray, List.set_cons_zero, List.set_cons_succ]
    refine skipW (i := 4) (d := 7) rfl rfl (by kernel_rfl) (by kernel_rfl) (by kernel_rfl) (fun _ _ _ h => h) (by rfl) (by assumption) ?_
    simp only [Act.put, List.setIfInBounds_toArray, List.set_cons_zero, List.set_cons_succ]
    refine skipW (i := 5) (d := 8) rfl rfl (by kernel_rfl) (by kernel_rfl) (by kernel_rfl) (fun _ _ _ h => h) (by rfl) (by assumption) ?_
    simp only [Act.put, List.setIfInBounds_toArray, List.set_cons_zero, List.set_cons_succ]
    refine skipW (i := 6) (d := 9) rfl rfl (by kernel_rfl) (by kernel_rfl) (by kernel_rfl) (fun _ _ _ h => h) (by rfl) (by assumption) ?_
    simp only [Act.put, List.setIfInBounds_toArray, List.set_cons_zero, List.set_cons_succ]
    (refine takeW (i := 7) (d := 10) (v := ?_) rfl rfl (by kernel_rfl) (by kernel_rfl) (by kernel_rfl) (fun _ _ _ h => h) (by rfl) ?_ (by assumption) ?_)
    rotate_left
    · (intro W hSW; go_simp; (try with_reducible rfl))
    simp only [Act.put, List.setIfInBounds_toArray, List.set_cons_zero, List.set_cons_succ]
    (refine takeW (i := 8) (d := 11) (v := ?_) rfl rfl (by kernel_rfl) (by kernel_rfl) (by kernel_rfl) (fun _ _ _ h => h) (by rfl) ?_ (by assumption) ?_)
    rotate_left
    · (intro W hSW; go_simp; (try with_reducible rfl))
    simp only [Act.put, List.setIfInBounds_toArray, List.set_cons_zero, List.set_cons_succ]
    refine skipW (i := 9) (d := 12) rfl rfl (by kernel_rfl) (by kernel_rfl) (by kernel_rfl) (fun _ _ _ h => h) (by rfl) (by assumption) ?_
    simp only [Act.put, List.setIfInBounds_toArray, List.set_cons_zero, List.set_cons_succ]
    refine skipW (i := 10) (d := 13) rfl rfl (by kernel_rfl) (by kernel_rfl) (by kernel_rfl) (fun _ _ _ h => h) (by rfl) (by assumption) ?_
    simp only [Act.put, List.setIfInBounds_toArray, List.set_cons_zero, List.set_cons_succ]
    refine skipW (i := 11) (d := 14) rfl rfl (by kernel_rfl) (by kernel_rfl) (by kernel_rfl) (fun _ _ _ h => h) (by rfl) (by assumption) ?_
    simp only [Act.put, List.setIfInBounds_toArray, List.set_cons_zero, List.set_cons_succ]
    refine skipW (i := 12) (d := 15) rfl rfl (by kernel_rfl) (by kernel_rfl) (by kernel_rfl) (fun _ _ _ h => h) (by rfl) (by assumption) ?_
    simp only [Act.put, List.setIfInBounds_toArray, List.set_cons_zero, List.set_cons_succ]
    (refine takeW (i := 13) (d := 16) (v := ?_) rfl rfl (by kernel_rfl) (by kernel_rfl) (by kernel_rfl) (fun _ _ _ h => h) (by rfl) ?_ (by assumption) ?_)
    rotate_left
    · (intro W hSW; go_simp; (try with_reducible rfl))
    simp only [Act.put, List.setIfInBounds_toArray, List.set_cons_zero, List.set_cons_succ]
    (refine takeW (i := 14) (d := 2) (v := ?_) rfl rfl (by kernel_rfl) (by kernel_rfl) (by kernel_rfl) (fun _ _ _ h => h) (by rfl) ?_ (by assumption) ?_)
    rotate_left
    · (intro W hSW; go_simp; (try with_reducible rfl))
    simp only [Act.put, List.setIfInBounds_toArray, List.set_cons_zero, List.set_cons_succ]
    refine wpAnyH_done (by kernel_rfl) ?_ _
    refine NoPanic.normal ?_
    go_wp2_with fail
    go_ret
    exact ⟨by first | rfl | simp | simp_all, Ev.bt HB.out (by first | with_reducible assumption | exact Ev.bdn (Ev.br _) _ | exact Ev.bd1 (Ev.br _) | exact Ev.br _)⟩
  cases h2 : inB x.li 1 40
  case false =>
    go_enter Try.func32, Try.ntmps32
    go_upto_region 1 with fail
    generalize World.alloc w _ = w0 at HX HB ⊢
    have hK := hid (fun W (k : Below w0.heap.size w0 W) => at_bu (HX.out.below k))
    refine wp_region_noPanic ?_
    refine wp_region_held_drew (S := (fun W => Below w0.heap.size w0 W)) (by kernel_rfl) (by first | exact Ev.bd1 (Ev.br _) | exact Ev.bdn (Ev.br _) _ | exact Ev.br _) (fun hHeld => ?_)
    (refine takeW (i := 0) (d := 3) (v := ?_) rfl rfl (by kernel_rfl) (by kernel_rfl) (by kernel_rfl) (fun _ _ _ h => h) (by rfl) ?_ (by assumption) ?_)
    rotate_left
    · (intro W hSW; go_simp; (try with_reducible rfl))
    simp only [Act.put, List.setIfInBounds_toArray, List.set_cons_zero, List.set_cons_succ]
    (refine takeW (i := 1) (d := 4) (v := ?_) rfl rfl (by kernel_rfl) (by kernel_rfl) (by kernel_rfl) (fun _ _ _ h => h) (by rfl) ?_ (by assumption) ?_)
    rotate_left
    · (intro W hSW; have hSW2 := hK.out W hSW; go_simp; (try with_reducible rfl))
    simp only [Act.put, List.setIfInBounds_toArray, List.set_cons_zero, List.set_cons_succ]
    refine wpAnyH_ready (rs := [2]) (by kernel_rfl) (by simp) ?_
    refine AllReadyH.cons (i := 2) rfl (fun K hKK => ?_) AllReadyH.nil
    go_simp
    ((refine (within_c _ _ _ _).mono ?_); rintro e w' ⟨rfl, rfl⟩; rw [h1])
    dsimp only
    refine hKK.out _ _ (show Below w0.heap.size w0 _ by first | with_reducible assumption | exact Ev.bdn (Ev.br _) _ | exact Ev.bd1 (Ev.br _) | exact Ev.br _) (fun hHeld => ?_)
    clear hKK K
    (try simp only [Act.put, List.setIfInBounds_toArray, List.set_cons_zero, List.set_cons_succ])
    (refine takeW (i := 3) (d := 6) (v := ?_) rfl rfl (by kernel_rfl) (by kernel_rfl) (by kernel_rfl) (fun _ _ _ h => h) (by rfl) ?_ (by assumption) ?_)
    rotate_left
    · (intro W hSW; go_simp; (try with_reducible rfl))
    simp only [Act.put, List.setIfInBounds_toArray, List.set_cons_zero, List.set_cons_succ]
    (refine takeW (i := 4) (d := 7) (v := ?_) rfl rfl (by kernel_rfl) (by kernel_rfl) (by kernel_rfl) (fun _ _ _ h => h) (by rfl) ?_ (by assumption) ?_)
    rotate_left
    · (intro W hSW; go_simp; (try with_reducible rfl))
    simp only [Act.put, List.setIfInBounds_toArray, List.set_cons_zero, List.set_cons_succ]
    (refine takeW (i := 5) (d := 8) (v := ?_) rfl rfl (by kernel_rfl) (by kernel_rfl) (by kernel_rfl) (fun _ _ _ h => h) (by rfl) ?_ (by assumption) ?_)
    rotate_left
    · (intro W hSW; have hSW2 := hK.out W hSW; go_simp; (try with_reducible rfl))
    simp only [Act.put, List.setIfInBounds_toArray, List.set_cons_zero, List.set_cons_succ]
    refine wpAnyH_ready (rs := [6]) (by kernel_rfl) (by simp) ?_
    refine AllReadyH.cons (i := 6) rfl (fun K hKK => ?_) AllReadyH.nil
    go_simp
    ((refine (within_c _ _ _ _).mono ?_); rintro e w' ⟨rfl, rfl⟩; rw [h2])
    dsimp only
    refine hKK.out _ _ (show Below w0.heap.size w0 _ by first | with_reducible assumption | exact Ev.bdn (Ev.br _) _ | exact Ev.bd1 (Ev.br _) | exact Ev.br _) (fun hHeld => ?_)
    clear hKK K
    (try simp only [Act.put, List.setIfInBounds_toArray, List.set_cons_zero, List.set_cons_succ])
    (refine takeW (i := 7) (d := 10) (v := ?_) rfl rfl (by kernel_rfl) (by kernel_rfl) (by kernel_rfl) (fun _ _ _ h => h) (by rfl) ?_ (by assumption) ?_)
    rotate_left
    · (intro W hSW; go_simp; (try with_reducible rfl))
    simp only [Act.put, List.setIfInBounds_toArray, List.set_cons_zero, List.set_cons_succ]
    (refine takeW (i := 8) (d := 11) (v := ?_) rfl rfl (by kernel_rfl) (by kernel_rfl) (by kernel_rfl) (fun _ _ _ h => h) (by rfl) ?_ (by assumption) ?_)
    rotate_left
    · (intro W hSW; go_simp; (try with_reducible rfl))
    simp only [Act.put, List.setIfInBounds_toArray, List.set_cons_zero, List.set_cons_succ]
    refine skipW (i := 9) (d := 12) rfl rfl (by kernel_rfl) (by kernel_rfl) (by kernel_rfl) (fun _ _ _ h => h) (by rfl) (by assumption) ?_
    simp only [Act.put, List.setIfInBounds_toArray, List.set_cons_zero, List.set_cons_succ]
    refine skipW (i := 10) (d := 13) rfl rfl (by kernel_rfl) (by kernel_rfl) (by kernel_rfl) (fun _ _ _ h => h) (by rfl) (by assumption) ?_
    simp only [Act.put, List.setIfInBounds_toArray, List.set_cons_zero, List.set_cons_succ]
    refine skipW (i := 11) (d := 14) rfl rfl (by kernel_rfl) (by kernel_rfl) (by kernel_rfl) (fun _ _ _ h => h) (by rfl) (by assumption) ?_
    simp only [Act.put, List.setIfInBounds_toArray, List.set_cons_zero, List.set_cons_succ]
    refine skipW (i := 12) (d := 15) rfl rfl (by kernel_rfl) (by kernel_rfl) (by kernel_rfl) (fun _ _ _ h => h) (by rfl) (by assumption) ?_
    simp only [Act.put, List.setIfInBounds_toArray, List.set_cons_zero, List.set_cons_succ]
    (refine takeW (i := 13) (d := 16) (v := ?_) rfl rfl (by kernel_rfl) (by kernel_rfl) (by kernel_rfl) (fun _ _ _ h => h) (by rfl) ?_ (by assumption) ?_)
    rotate_left
    · (intro W hSW; go_simp; (try with_reducible rfl))
    simp only [Act.put, List.setIfInBounds_toArray, List.set_cons_zero, List.set_cons_succ]
    (refine takeW (i := 14) (d := 2) (v := ?_) rfl rfl (by kernel_rfl) (by kernel_rfl) (by kernel_rfl) (fun _ _ _ h => h) (by rfl) ?_ (by assumption) ?_)
    rotate_left
    · (intro W hSW; go_simp; (try with_reducible rfl))
    simp only [Act.put, List.setIfInBounds_toArray, List.set_cons_zero, List.set_cons_succ]
    refine wpAnyH_done (by kernel_rfl) ?_ _
    refine NoPanic.normal ?_
    go_wp2_with fail
    go_ret
    exact ⟨by first | rfl | simp | simp_all, Ev.bt HB.out (by first | with_reducible assumption | exact Ev.bdn (Ev.br _) _ | exact Ev.bd1 (Ev.br _) | exact Ev.br _)⟩
  go_enter Try.func32, Try.ntmps32
  go_upto_region 1 with fail
  generalize World.alloc w _ = w0 at HX HB ⊢
  have hK := hid (fun W (k : Below w0.heap.size w0 W) => at_bu (HX.out.below k))
  refine wp_region_noPanic ?_
  refine wp_region_held_drew (S := (fun W => Below w0.heap.size w0 W)) (by kernel_rfl) (by first | exact Ev.bd1 (Ev.br _) | exact Ev.bdn (Ev.br _) _ | exact Ev.br _) (fun hHeld => ?_)
  (refine takeW (i := 0) (d := 3) (v := ?_) rfl rfl (by kernel_rfl) (by kernel_rfl) (by kernel_rfl) (fun _ _ _ h => h) (by rfl) ?_ (by assumption) ?_)
  rotate_left
  · (intro W hSW; go_simp; (try with_reducible rfl))
  simp only [Act.put, List.setIfInBounds_toArray, List.set_cons_zero, List.set_cons_succ]
  (refine takeW (i := 1) (d := 4) (v := ?_) rfl rfl (by kernel_rfl) (by kernel_rfl) (by kernel_rfl) (fun _ _ _ h => h) (by rfl) ?_ (by assumption) ?_)
  rotate_left
  · (intro W hSW; have hSW2 := hK.out W hSW; go_simp; (try with_reducible rfl))
  simp only [Act.put, List.setIfInBounds_toArray, List.set_cons_zero, List.set_cons_succ]
  refine wpAnyH_ready (rs := [2]) (by kernel_rfl) (by simp) ?_
  refine AllReadyH.cons (i := 2) rfl (fun K hKK => ?_) AllReadyH.nil
  go_simp
  ((refine (within_c _ _ _ _).mono ?_); rintro e w' ⟨rfl, rfl⟩; rw [h1])
  dsimp only
  refine hKK.out _ _ (show Below w0.heap.size w0 _ by first | with_reducible assumption | exact Ev.bdn (Ev.br _) _ | exact Ev.bd1 (Ev.br _) | exact Ev.br _) (fun hHeld => ?_)
  clear hKK K
  (try simp only [Act.put, List.setIfInBounds_toArray, List.set_cons_zero, List.set_cons_succ])
  (refine takeW (i := 3) (d := 6) (v := ?_) rfl rfl (by kernel_rfl) (by kernel_rfl) (by kernel_rfl) (fun _ _ _ h => h) (by rfl) ?_ (by assumption) ?_)
  rotate_left
  · (intro W hSW; go_simp; (try with_reducible rfl))
  simp only [Act.put, List.setIfInBounds_toArray, List.set_cons_zero, List.set_cons_succ]
  (refine takeW (i := 4) (d := 7) (v := ?_) rfl rfl (by kernel_rfl) (by kernel_rfl) (by kernel_rfl) (fun _ _ _ h => h) (by rfl) ?_ (by assumption) ?_)
  rotate_left
  · (intro W hSW; go_simp; (try with_reducible rfl))
  simp only [Act.put, List.setIfInBounds_toArray, List.set_cons_zero, List.set_cons_succ]
  (refine takeW (i := 5) (d := 8) (v := ?_) rfl rfl (by kernel_rfl) (by kernel_rfl) (by kernel_rfl) (fun _ _ _ h => h) (by rfl) ?_ (by assumption) ?_)
  rotate_left
  · (intro W hSW; have hSW2 := hK.out W hSW; go_simp; (try with_reducible rfl))
  simp only [Act.put, List.setIfInBounds_toArray, List.set_cons_zero, List.set_cons_succ]
  refine wpAnyH_ready (rs := [6]) (by kernel_rfl) (by simp) ?_
  refine AllReadyH.cons (i := 6) rfl (fun K hKK => ?_) AllReadyH.nil
  go_simp
  ((refine (within_c _ _ _ _).mono ?_); rintro e w' ⟨rfl, rfl⟩; rw [h2])
  dsimp only
  refine hKK.out _ _ (show Below w0.heap.size w0 _ by first | with_reducible assumption | exact Ev.bdn (Ev.br _) _ | exact Ev.bd1 (Ev.br _) | exact Ev.br _) (fun hHeld => ?_)
  clear hKK K
  (try simp only [Act.put, List.setIfInBounds_toArray, List.set_cons_zero, List.set_cons_succ])
  (refine takeW (i := 7) (d := 10) (v := ?_) rfl rfl (by kernel_rfl) (by kernel_rfl) (by kernel_rfl) (fun _ _ _ h => h) (by rfl) ?_ (by assumption) ?_)
  rotate_left
  · (intro W hSW; go_simp; (try with_reducible rfl))
  simp only [Act.put, List.setIfInBounds_toArray, List.set_cons_zero, List.set_cons_succ]
  (refine takeW (i := 8) (d := 11) (v := ?_) rfl rfl (by kernel_rfl) (by kernel_rfl) (by kernel_rfl) (fun _ _ _ h => h) (by rfl) ?_ (by assumption) ?_)
  rotate_left
  · (intro W hSW; go_simp; (try with_reducible rfl))
  simp only [Act.put, List.setIfInBounds_toArray, List.set_cons_zero, List.set_cons_succ]
  (refine takeW (i := 10) (d := 13) (v := ?_) rfl rfl (by kernel_rfl) (by kernel_rfl) (by kernel_rfl) (fun _ _ _ h => h) (by rfl) ?_ (by assumption) ?_)
  rotate_left
  · (intro W hSW; go_simp; (try with_reducible rfl))
  simp only [Act.put, List.setIfInBounds_toArray, List.set_cons_zero, List.set_cons_succ]
  (refine takeW (i := 11) (d := 14) (v := ?_) rfl rfl (by kernel_rfl) (by kernel_rfl) (by kernel_rfl) (fun _ _ _ h => h) (by rfl) ?_ (by assumption) ?_)
  rotate_left
  · (intro W hSW; have hSW2 := hK.out W hSW; go_simp; (try with_reducible rfl))
  simp only [Act.put, List.setIfInBounds_toArray, List.set_cons_zero, List.set_cons_succ]
  refine wpAnyH_ready (rs := [9]) (by kernel_rfl) (by simp) ?_
  refine AllReadyH.cons (i := 9) rfl (fun K hKK => ?_) AllReadyH.nil
  go_simp
  ((refine (arena_c _).mono ?_); rintro e y1 ⟨rfl, g1⟩; have hgy1 := Ev.bt (show Below w0.heap.size w0 _ by first | with_reducible assumption | exact Ev.bdn (Ev.br _) _ | exact Ev.bd1 (Ev.br _) | exact Ev.br _) g1)
  dsimp only
  refine hKK.out _ _ hgy1 (fun hHeld => ?_)
  clear hKK K
  (try simp only [Act.put, List.setIfInBounds_toArray, List.set_cons_zero, List.set_cons_succ])
  refine wpAnyH_ready (rs := [12]) (by kernel_rfl) (by simp) ?_
  refine AllReadyH.cons (i := 12) rfl (fun K hKK => ?_) AllReadyH.nil
  go_simp
  ((refine (Sh.inside_c _ _ _ _ _ _ _).mono ?_); rintro e y2 ⟨rfl, g2⟩; have hgy2 := Ev.bt (show Below w0.heap.size w0 _ by first | with_reducible assumption | exact Ev.bdn (Ev.br _) _ | exact Ev.bd1 (Ev.br _) | exact Ev.br _) g2)
  dsimp only
  refine hKK.out _ _ hgy2 (fun hHeld => ?_)
  clear hKK K
  (try simp only [Act.put, List.setIfInBounds_toArray, List.set_cons_zero, List.set_cons_succ])
  (refine takeW (i := 13) (d := 16) (v := ?_) rfl rfl (by kernel_rfl) (by kernel_rfl) (by kernel_rfl) (fun _ _ _ h => h) (by rfl) ?_ (by assumption) ?_)
  rotate_left
  · (intro W hSW; go_simp; (try with_reducible rfl))
  simp only [Act.put, List.setIfInBounds_toArray, List.set_cons_zero, List.set_cons_succ]
  (refine takeW (i := 14) (d := 2) (v := ?_) rfl rfl (by kernel_rfl) (by kernel_rfl) (by kernel_rfl) (fun _ _ _ h => h) (by rfl) ?_ (by assumption) ?_)
  rotate_left
  · (intro W hSW; go_simp; (try with_reducible rfl))
  simp only [Act.put, List.setIfInBounds_toArray, List.set_cons_zero, List.set_cons_succ]
  refine wpAnyH_done (by kernel_rfl) ?_ _
  refine NoPanic.normal ?_
  go_wp2_with fail
  go_ret
  exact ⟨by first | rfl | simp | simp_all, Ev.bt HB.out (by first | with_reducible assumption | exact Ev.bdn (Ev.br _) _ | exact Ev.bd1 (Ev.br _) | exact Ev.br _)⟩

end Go.Proofs.Ythbncbdnpeglfaa.Gm
