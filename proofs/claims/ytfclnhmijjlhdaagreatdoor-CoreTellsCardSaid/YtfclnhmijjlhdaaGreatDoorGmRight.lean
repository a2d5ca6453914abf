/- Which players and shots may be; players as they begin (layer 12, game). -/
import Derived.Test.YtfclnhmijjlhdaaGreatDoorJ10
import Derived.Test.YtfclnhmijjlhdaaGreatDoorGmEq
namespace Go.Proofs.YtfclnhmijjlhdaaGreatDoor.Gm
open Go.RowKit Go.Proofs.YtfclnhmijjlhdaaGreatDoor.Fx Go.Proofs.YtfclnhmijjlhdaaGreatDoor.Tg Go.Proofs.YtfclnhmijjlhdaaGreatDoor.Dc
open Go.Proofs.YtfclnhmijjlhdaaGreatDoor.Ev (Ev Ky addR pageI At ecs Pg Evs)
open Go.Proofs.YtfclnhmijjlhdaaGreatDoor.Sh (In32 vec box insideB touchB slI mvP mvV wallI)
set_option linter.unusedVariables false

abbrev plA (p : Pl) : Array Value := #[.int .i32 p.ax, .int .i32 p.ay, .int .i32 p.vx, .int .i32 p.vy, .int .i64 p.fa, .int .i64 p.hp, .int .i64 p.co, .int .i64 p.wi, .int .i64 p.dn, .int .i64 p.sc]
abbrev buA (x : Bu) : Array Value := #[.int .i32 x.ax, .int .i32 x.ay, .int .i32 x.vx, .int .i32 x.vy, .int .i64 x.ow, .int .i64 x.li]
theorem at_bu {w : World} {b : Nat} {x : Bu} {T : TypeId} (h : At w b (buA x) T) : w.cell? ⟨b, 0, none⟩ = some (.int .i32 x.ax) ∧ w.cell? ⟨b, 1, none⟩ = some (.int .i32 x.ay) ∧ w.cell? ⟨b, 2, none⟩ = some (.int .i32 x.vx) ∧ w.cell? ⟨b, 3, none⟩ = some (.int .i32 x.vy) ∧ w.cell? ⟨b, 4, none⟩ = some (.int .i64 x.ow) ∧ w.cell? ⟨b, 5, none⟩ = some (.int .i64 x.li) := by
 have hc := fun j => cell_of_row w b j _ _ _ h
 refine ⟨?_, ?_, ?_, ?_, ?_, ?_⟩ <;> (rw [hc]; rfl)
theorem at_pl {w : World} {b : Nat} {x : Pl} {T : TypeId} (h : At w b (plA x) T) : w.cell? ⟨b, 0, none⟩ = some (.int .i32 x.ax) ∧ w.cell? ⟨b, 1, none⟩ = some (.int .i32 x.ay) ∧ w.cell? ⟨b, 2, none⟩ = some (.int .i32 x.vx) ∧ w.cell? ⟨b, 3, none⟩ = some (.int .i32 x.vy) ∧ w.cell? ⟨b, 4, none⟩ = some (.int .i64 x.fa) ∧ w.cell? ⟨b, 5, none⟩ = some (.int .i64 x.hp) ∧ w.cell? ⟨b, 6, none⟩ = some (.int .i64 x.co) ∧ w.cell? ⟨b, 7, none⟩ = some (.int .i64 x.wi) ∧ w.cell? ⟨b, 8, none⟩ = some (.int .i64 x.dn) ∧ w.cell? ⟨b, 9, none⟩ = some (.int .i64 x.sc) := by
 have hc := fun j => cell_of_row w b j _ _ _ h
 refine ⟨?_, ?_, ?_, ?_, ?_, ?_, ?_, ?_, ?_, ?_⟩ <;> (rw [hc]; rfl)

theorem takeW {P : Program} {ops : Array Oper} {Q : Exit → Act → World → Prop} {md : Region.Mode} {S : World → Prop} {i d : Nat} {oi : Oper} {v : Value} {fuel : Nat} {listed : Array Bool} {a : Act} {w : World} (hi : ops[i]? = some oi) (hd : oi.dst = some d)
 (hs : Region.noSelect ops = true) (hf : Region.free md ops listed i = true) (hr : (Region.ready md ops listed).contains i = true)
 (hQ : ∀ c a w, Q (.panic c) (a.put oi.dst v) w → Q (.panic c) a w) (hw : Region.wanted oi (yielded ops a.tmps) = true) (hy : ∀ w, S w → (execOp a.eval oi).run P w = .ok (.value v) w) (hS : S w)
 (h : wpAnyH P md ops Q S fuel (listed.setIfInBounds i true) (a.put (some d) v) w) : wpAnyH P md ops Q S (fuel + 1) listed a w :=
 wpAnyH_take hi hs hf hr hQ (.inl ⟨hw, hy⟩) hS (by rw [hd]; exact h)
theorem skipW {P : Program} {ops : Array Oper} {Q : Exit → Act → World → Prop} {md : Region.Mode} {S : World → Prop} {i d : Nat} {oi : Oper} {fuel : Nat} {listed : Array Bool} {a : Act} {w : World} (hi : ops[i]? = some oi) (hd : oi.dst = some d)
 (hs : Region.noSelect ops = true) (hf : Region.free md ops listed i = true) (hr : (Region.ready md ops listed).contains i = true)
 (hQ : ∀ c a w, Q (.panic c) (a.put oi.dst undef) w → Q (.panic c) a w) (hw : Region.wanted oi (yielded ops a.tmps) = false) (hS : S w)
 (h : wpAnyH P md ops Q S fuel (listed.setIfInBounds i true) (a.put (some d) undef) w) : wpAnyH P md ops Q S (fuel + 1) listed a w :=
 wpAnyH_take hi hs hf hr hQ (.inr ⟨hw, rfl⟩) hS (by rw [hd]; exact h)

set_option maxRecDepth 100000 in
theorem isfree_c (x : Bu) (w : World) :
 Calls Tryz.prog 98 #[buV x] w fun e w' => e = .returned (.bool (decide (x = zeroB))) ∧ Below w.heap.size w w' := by
 have hg := guardB
 have he : ∀ w, (binOp .eql 62 (buV x) (.agg #[.int .i32 0, .int .i32 0, .int .i32 0, .int .i32 0, .int .i64 0, .int .i64 0])).run Tryz.prog w = .ok (.bool (decide (x = zeroB))) w := fun w => eqB x zeroB w
 go_enter Tryz.func98, Tryz.ntmps98
 go_wp2_with fail
 go_ret
 exact ⟨rfl, Ev.bal (Ev.br w) _⟩

def flyB (x : Bu) : Bool := inB x.ow 1 2 && (inB x.li 1 40 && insideB (-4194304) (-4194304) 4194304 4194304 x.ax x.ay)

set_option maxRecDepth 100000 in
set_option maxHeartbeats 2000000 in
theorem mayfly_c (x : Bu) (w : World) :
 Calls Tryz.prog 99 #[buV x] w fun e w' => e = .returned (.bool (flyB x)) ∧ Below w.heap.size w w' := by
 unfold flyB
 have HX := hid (At.new w (buA x) 62)
 have HB := hid (Ev.bal (Ev.br w) (.cells (buA x) 62))
 cases h1 : inB x.ow 1 2
 case false =>
  go_enter Tryz.func99, Tryz.ntmps99
  go_upto_region 1 with fail
  generalize World.alloc w _ = w0 at HX HB ⊢
  have hK := hid (fun W (k : Below w0.heap.size w0 W) => at_bu (HX.out.below k))
  refine wp_region_noPanic ?_
  refine wp_region_held_drew (S := (fun W => Below w0.heap.size w0 W)) (by kernel_rfl) (by first | exact Ev.bd1 (Ev.br _) | exact Ev.bdn (Ev.br _) _ | exact Ev.br _) (fun hHeld => ?_)
  refine tkA 0 3 ?_
  simp only [pa, pu2, pu3]
  refine tkL 1 4 hK.out ?_
  simp only [pa, pu2, pu3]
  refine onA 2 (fun K hKK => ?_)
  go_simp
  ((refine (within_c _ _ _ _).mono ?_); rintro e w' ⟨rfl, rfl⟩; rw [h1])
  dsimp only
  refine hKK.out _ _ (show Below w0.heap.size w0 _ by first | with_reducible assumption | exact Ev.bdn (Ev.br _) _ | exact Ev.bd1 (Ev.br _) | exact Ev.br _) (fun hHeld => ?_)
  clear hKK K
  (try simp only [Act.put, pu1, pu2, pu3])
  refine tkA 3 6 ?_
  simp only [pa, pu2, pu3]
  refine tkS 4 7 ?_
  simp only [pa, pu2, pu3]
  refine tkS 5 8 ?_
  simp only [pa, pu2, pu3]
  refine tkS 6 9 ?_
  simp only [pa, pu2, pu3]
  refine tkA 7 10 ?_
  simp only [pa, pu2, pu3]
  refine tkA 8 11 ?_
  simp only [pa, pu2, pu3]
  refine tkS 9 12 ?_
  simp only [pa, pu2, pu3]
  refine tkS 10 13 ?_
  simp only [pa, pu2, pu3]
  refine tkS 11 14 ?_
  simp only [pa, pu2, pu3]
  refine tkS 12 15 ?_
  simp only [pa, pu2, pu3]
  refine tkA 13 16 ?_
  simp only [pa, pu2, pu3]
  refine tkA 14 2 ?_
  simp only [pa, pu2, pu3]
  refine wpAnyH_done (by kernel_rfl) ?_ _
  refine NoPanic.normal ?_
  go_wp2_with fail
  go_ret
  exact ⟨by first | rfl | simp | simp_all, Ev.bt HB.out (by first | with_reducible assumption | exact Ev.bdn (Ev.br _) _ | exact Ev.bd1 (Ev.br _) | exact Ev.br _)⟩
 cases h2 : inB x.li 1 40
 case false =>
  go_enter Tryz.func99, Tryz.ntmps99
  go_upto_region 1 with fail
  generalize World.alloc w _ = w0 at HX HB ⊢
  have hK := hid (fun W (k : Below w0.heap.size w0 W) => at_bu (HX.out.below k))
  refine wp_region_noPanic ?_
  refine wp_region_held_drew (S := (fun W => Below w0.heap.size w0 W)) (by kernel_rfl) (by first | exact Ev.bd1 (Ev.br _) | exact Ev.bdn (Ev.br _) _ | exact Ev.br _) (fun hHeld => ?_)
  refine tkA 0 3 ?_
  simp only [pa, pu2, pu3]
  refine tkL 1 4 hK.out ?_
  simp only [pa, pu2, pu3]
  refine onA 2 (fun K hKK => ?_)
  go_simp
  ((refine (within_c _ _ _ _).mono ?_); rintro e w' ⟨rfl, rfl⟩; rw [h1])
  dsimp only
  refine hKK.out _ _ (show Below w0.heap.size w0 _ by first | with_reducible assumption | exact Ev.bdn (Ev.br _) _ | exact Ev.bd1 (Ev.br _) | exact Ev.br _) (fun hHeld => ?_)
  clear hKK K
  (try simp only [Act.put, pu1, pu2, pu3])
  refine tkA 3 6 ?_
  simp only [pa, pu2, pu3]
  refine tkA 4 7 ?_
  simp only [pa, pu2, pu3]
  refine tkL 5 8 hK.out ?_
  simp only [pa, pu2, pu3]
  refine onA 6 (fun K hKK => ?_)
  go_simp
  ((refine (within_c _ _ _ _).mono ?_); rintro e w' ⟨rfl, rfl⟩; rw [h2])
  dsimp only
  refine hKK.out _ _ (show Below w0.heap.size w0 _ by first | with_reducible assumption | exact Ev.bdn (Ev.br _) _ | exact Ev.bd1 (Ev.br _) | exact Ev.br _) (fun hHeld => ?_)
  clear hKK K
  (try simp only [Act.put, pu1, pu2, pu3])
  refine tkA 7 10 ?_
  simp only [pa, pu2, pu3]
  refine tkA 8 11 ?_
  simp only [pa, pu2, pu3]
  refine tkS 9 12 ?_
  simp only [pa, pu2, pu3]
  refine tkS 10 13 ?_
  simp only [pa, pu2, pu3]
  refine tkS 11 14 ?_
  simp only [pa, pu2, pu3]
  refine tkS 12 15 ?_
  simp only [pa, pu2, pu3]
  refine tkA 13 16 ?_
  simp only [pa, pu2, pu3]
  refine tkA 14 2 ?_
  simp only [pa, pu2, pu3]
  refine wpAnyH_done (by kernel_rfl) ?_ _
  refine NoPanic.normal ?_
  go_wp2_with fail
  go_ret
  exact ⟨by first | rfl | simp | simp_all, Ev.bt HB.out (by first | with_reducible assumption | exact Ev.bdn (Ev.br _) _ | exact Ev.bd1 (Ev.br _) | exact Ev.br _)⟩
 go_enter Tryz.func99, Tryz.ntmps99
 go_upto_region 1 with fail
 generalize World.alloc w _ = w0 at HX HB ⊢
 have hK := hid (fun W (k : Below w0.heap.size w0 W) => at_bu (HX.out.below k))
 refine wp_region_noPanic ?_
 refine wp_region_held_drew (S := (fun W => Below w0.heap.size w0 W)) (by kernel_rfl) (by first | exact Ev.bd1 (Ev.br _) | exact Ev.bdn (Ev.br _) _ | exact Ev.br _) (fun hHeld => ?_)
 refine tkA 0 3 ?_
 simp only [pa, pu2, pu3]
 refine tkL 1 4 hK.out ?_
 simp only [pa, pu2, pu3]
 refine onA 2 (fun K hKK => ?_)
 go_simp
 ((refine (within_c _ _ _ _).mono ?_); rintro e w' ⟨rfl, rfl⟩; rw [h1])
 dsimp only
 refine hKK.out _ _ (show Below w0.heap.size w0 _ by first | with_reducible assumption | exact Ev.bdn (Ev.br _) _ | exact Ev.bd1 (Ev.br _) | exact Ev.br _) (fun hHeld => ?_)
 clear hKK K
 (try simp only [Act.put, pu1, pu2, pu3])
 refine tkA 3 6 ?_
 simp only [pa, pu2, pu3]
 refine tkA 4 7 ?_
 simp only [pa, pu2, pu3]
 refine tkL 5 8 hK.out ?_
 simp only [pa, pu2, pu3]
 refine onA 6 (fun K hKK => ?_)
 go_simp
 ((refine (within_c _ _ _ _).mono ?_); rintro e w' ⟨rfl, rfl⟩; rw [h2])
 dsimp only
 refine hKK.out _ _ (show Below w0.heap.size w0 _ by first | with_reducible assumption | exact Ev.bdn (Ev.br _) _ | exact Ev.bd1 (Ev.br _) | exact Ev.br _) (fun hHeld => ?_)
 clear hKK K
 (try simp only [Act.put, pu1, pu2, pu3])
 refine tkA 7 10 ?_
 simp only [pa, pu2, pu3]
 refine tkA 8 11 ?_
 simp only [pa, pu2, pu3]
 refine tkA 10 13 ?_
 simp only [pa, pu2, pu3]
 refine tkL 11 14 hK.out ?_
 simp only [pa, pu2, pu3]
 refine onA 9 (fun K hKK => ?_)
 go_simp
 ((refine (arena_c _).mono ?_); rintro e y1 ⟨rfl, g1⟩; have hgy1 := Ev.bt (show Below w0.heap.size w0 _ by first | with_reducible assumption | exact Ev.bdn (Ev.br _) _ | exact Ev.bd1 (Ev.br _) | exact Ev.br _) g1)
 dsimp only
 refine hKK.out _ _ hgy1 (fun hHeld => ?_)
 clear hKK K
 (try simp only [Act.put, pu1, pu2, pu3])
 refine onA 12 (fun K hKK => ?_)
 go_simp
 ((refine (Sh.inside_c _ _ _ _ _ _ _).mono ?_); rintro e y2 ⟨rfl, g2⟩; have hgy2 := Ev.bt (show Below w0.heap.size w0 _ by first | with_reducible assumption | exact Ev.bdn (Ev.br _) _ | exact Ev.bd1 (Ev.br _) | exact Ev.br _) g2)
 dsimp only
 refine hKK.out _ _ hgy2 (fun hHeld => ?_)
 clear hKK K
 (try simp only [Act.put, pu1, pu2, pu3])
 refine tkA 13 16 ?_
 simp only [pa, pu2, pu3]
 refine tkA 14 2 ?_
 simp only [pa, pu2, pu3]
 refine wpAnyH_done (by kernel_rfl) ?_ _
 refine NoPanic.normal ?_
 go_wp2_with fail
 go_ret
 exact ⟨by first | rfl | simp | simp_all, Ev.bt HB.out (by first | with_reducible assumption | exact Ev.bdn (Ev.br _) _ | exact Ev.bd1 (Ev.br _) | exact Ev.br _)⟩

end Go.Proofs.YtfclnhmijjlhdaaGreatDoor.Gm
