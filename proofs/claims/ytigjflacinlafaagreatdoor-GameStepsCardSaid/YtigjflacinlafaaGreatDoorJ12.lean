/- What the document tells (layer 12, game). -/
/- The memory of the document's Player (layer 12, game). -/
import Derived.Test.YtigjflacinlafaaGreatDoorGmRa
import Derived.Test.YtigjflacinlafaaGreatDoorJ11
import Derived.Deep.RegionWith
import Derived.Test.YtigjflacinlafaaGreatDoorGmGood
import Derived.Test.YtigjflacinlafaaGreatDoorJ2
namespace Go.Proofs.YtigjflacinlafaaGreatDoor.Gm
open Go.RowKit Go.Proofs.YtigjflacinlafaaGreatDoor.Fx Go.Proofs.YtigjflacinlafaaGreatDoor.Tg Go.Proofs.YtigjflacinlafaaGreatDoor.Dc
open Go.Proofs.YtigjflacinlafaaGreatDoor.Ev (Ev Ky addR pageI At ecs Pg Evs)
open Go.Proofs.YtigjflacinlafaaGreatDoor.Sh (In32 vec box insideB touchB slI mvP mvV wallI)
set_option linter.unusedVariables false

theorem ten_cell {w : World} {b : Nat} {T : TypeId} (h : At w b #[.int .i64 0, .int .i64 1, .int .i64 2, .int .i64 3, .int .i64 4, .int .i64 5, .int .i64 6, .int .i64 7, .int .i64 8, .int .i64 9] T) (k : Nat) (hk : k < 10) : w.cell? ⟨b, k, none⟩ = some (.int .i64 k) := by
 rw [cell_of_row w b k _ _ _ h]
 have hh : k = 0 ∨ k = 1 ∨ k = 2 ∨ k = 3 ∨ k = 4 ∨ k = 5 ∨ k = 6 ∨ k = 7 ∨ k = 8 ∨ k = 9 := by omega
 rcases hh with rfl | rfl | rfl | rfl | rfl | rfl | rfl | rfl | rfl | rfl <;> rfl

/-- v is empty, or lies in none of the blocks from a to b. -/
def Off (a b : Nat) (v : Value) (l : List Ev) : Prop := l = [] ∨ ∀ k, v.ownBlock = some k → k < a ∨ b < k
theorem frv_trans {w a b : World} {v v1 v2 : Value} (h : Ev.Frv w a v v1) (g : Ev.Frv a b v1 v2) (hw : w.heap.size ≤ a.heap.size) (hb : a.heap.size ≤ b.heap.size) : Ev.Frv w b v v2 := by
 rcases g with rfl | g
 · rcases h with rfl | h
   · exact .inl rfl
   · exact .inr fun k e => ⟨(h k e).1, Nat.lt_of_lt_of_le (h k e).2 hb⟩
 · exact .inr fun k e => ⟨Nat.le_trans hw (g k e).1, (g k e).2⟩

set_option maxRecDepth 100000 in
set_option maxHeartbeats 2000000 in
theorem rtold0_c (k : Nat) (h1 : 1 ≤ k) (hk : k < 10) (v : Value) (l : List Ev) (fr : Int) (w : World) (h : Evs w v l) (hl : l.length ≤ 64) :
 Calls Tryz.prog 19 #[v, .int .i64 fr, .int .i64 0, .int .i64 k, .int .i64 (gainI k), .int .i64 (prioI k), .int .i64 (longI k), .int .i32 0] w fun r w' => ∃ v', r = .returned v' ∧ Evs w' v' (tel fr l 0 k 0) ∧ Below w.heap.size w w' ∧ Ev.Frv w w' v v' := by
 have HAdd : Hid (∀ W, Below w.heap.size w W → Calls Tryz.prog 48 #[v, .int .i64 fr, .agg #[.int .i64 0, .int .i64 0, .int .i64 k, .int .i64 0, .int .i64 k, .int .i64 (gainI k), .int .i64 0, .int .i64 (prioI k), .int .i64 (longI k)]] W fun r w' => ∃ v', r = .returned (.tuple #[v', Ev.kv (addR fr l (evt 0 k 0)).2.1, .int .i64 (addR fr l (evt 0 k 0)).2.2]) ∧ Evs w' v' (addR fr l (evt 0 k 0)).1 ∧ Below W.heap.size W w' ∧ Ev.Frv W w' v v') := hid (fun W g => by
  have := Ev.radd_c v l fr (evt 0 k 0) W (h.below g) hl
  exact this)
 have HN := hid (At.new w #[.int .i64 0, .int .i64 1, .int .i64 2, .int .i64 3, .int .i64 4, .int .i64 5, .int .i64 6, .int .i64 7, .int .i64 8, .int .i64 9] 3)
 have HB := hid (Ev.bal (Ev.br w) (.cells #[.int .i64 0, .int .i64 1, .int .i64 2, .int .i64 3, .int .i64 4, .int .i64 5, .int .i64 6, .int .i64 7, .int .i64 8, .int .i64 9] 3))
 generalize gainI k = G at HAdd ⊢
 generalize prioI k = P at HAdd ⊢
 generalize longI k = L at HAdd ⊢
 have hk0 : (0 : Int) ≤ (k : Int) := by omega
 have hk1 : (k : Int) < 10 := by omega
 have HR : Hid (tel fr l 0 k 0 = (addR fr l (evt 0 k 0)).1) := hid rfl
 generalize addR fr l (evt 0 k 0) = q at HAdd HR
 obtain ⟨lq, kq, eq⟩ := q
 clear h
 go_enter Tryz.func19, Tryz.ntmps19
 go_upto_region 5 with fail
 generalize World.alloc w _ = w0 at HN HB ⊢
 have hc := ten_cell HN.out k hk
 go_wp2_with (go_at_call 48; ((with_reducible refine (HAdd.out _ HB.out).mono ?_); rintro r w1 ⟨v', rfl, hv, g1, gf⟩; have HV := hid hv; have HG := hid g1; have HF := hid gf; clear hv g1 gf))
 go_ret
 refine ⟨v', rfl, by rw [HR.out]; exact HV.out.below (Ev.bal (Ev.br _) _), Ev.bal (Ev.bt HB.out HG.out) _, ?_⟩
 rcases HF.out with e | e
 · exact .inl e
 · exact .inr fun k hk => ⟨Nat.le_trans HB.out.size (e k hk).1, Nat.lt_of_lt_of_le (e k hk).2 (by simp)⟩

set_option maxRecDepth 100000 in
set_option maxHeartbeats 2000000 in
theorem rtold_c (k : Nat) (h1 : 1 ≤ k) (hk : k < 10) (v : Value) (l : List Ev) (fr e x : Int) (w : World) (h : Evs w v l) (hl : l.length ≤ 64) (he : 1 ≤ e ∧ e ≤ 2) (hx : -4194304 ≤ x ∧ x ≤ 4194304) :
 Calls Tryz.prog 19 #[v, .int .i64 fr, .int .i64 e, .int .i64 k, .int .i64 (gainI k), .int .i64 (prioI k), .int .i64 (longI k), .int .i32 x] w fun r w' => ∃ v', r = .returned v' ∧ Evs w' v' (tel fr l e k x) ∧ Below w.heap.size w w' ∧ Ev.Frv w w' v v' := by
 have HAdd : Hid (∀ W, Below w.heap.size w W → Calls Tryz.prog 48 #[v, .int .i64 fr, .agg #[.int .i64 0, .int .i64 e, .int .i64 k, .int .i64 0, .int .i64 k, .int .i64 (gainI k), .int .i64 (x / 128), .int .i64 (prioI k), .int .i64 (longI k)]] W fun r w' => ∃ v', r = .returned (.tuple #[v', Ev.kv (addR fr l (evt e k x)).2.1, .int .i64 (addR fr l (evt e k x)).2.2]) ∧ Evs w' v' (addR fr l (evt e k x)).1 ∧ Below W.heap.size W w' ∧ Ev.Frv W w' v v') := hid (fun W g => by
  have := Ev.radd_c v l fr (evt e k x) W (h.below g) hl
  have hp : panI e x = x / 128 := if_neg (by omega)
  generalize addR fr l (evt e k x) = q at this ⊢
  dsimp only [Ev.ev, evt] at this
  rw [hp] at this
  exact this)
 have HFl : ∀ W, Calls Tryz.prog 47 #[.int .i64 (x * 32768), .int .i64 4194304] W fun r w' => r = .returned (.int .i64 (x / 128)) ∧ W = w' := fun W => by
  have := rfloor_c (x * 32768) 4194304 (by omega) (by decide) (by decide) W
  rw [show x * 32768 / 4194304 = x / 128 by omega] at this
  exact this
 have HBt : ∀ W, Calls Tryz.prog 46 #[.int .i64 (x / 128), .int .i64 (-32768), .int .i64 32768] W fun r w' => r = .returned (.int .i64 (x / 128)) ∧ W = w' := fun W => by
  have := between_c (x / 128) (-32768) 32768 (by decide) W
  rw [show holdI (x / 128) (-32768) 32768 = x / 128 by unfold holdI; rw [if_neg (show ¬ (32768 : Int) < x / 128 by omega), if_neg (by omega)]] at this
  exact this
 have HN := hid (At.new w #[.int .i64 0, .int .i64 1, .int .i64 2, .int .i64 3, .int .i64 4, .int .i64 5, .int .i64 6, .int .i64 7, .int .i64 8, .int .i64 9] 3)
 have HB := hid (Ev.bal (Ev.br w) (.cells #[.int .i64 0, .int .i64 1, .int .i64 2, .int .i64 3, .int .i64 4, .int .i64 5, .int .i64 6, .int .i64 7, .int .i64 8, .int .i64 9] 3))
 generalize gainI k = G at HAdd ⊢
 generalize prioI k = P at HAdd ⊢
 generalize longI k = L at HAdd ⊢
 have hk0 : (0 : Int) ≤ (k : Int) := by omega
 have hk1 : (k : Int) < 10 := by omega
 have HR : Hid (tel fr l e k x = (addR fr l (evt e k x)).1) := hid rfl
 generalize addR fr l (evt e k x) = q at HAdd HR
 obtain ⟨lq, kq, eq⟩ := q
 clear h
 go_enter Tryz.func19, Tryz.ntmps19
 go_upto_region 5 with (first
  | (go_at_call 47; ((with_reducible refine (HFl _).mono ?_); rintro r w' ⟨rfl, rfl⟩))
  | (go_at_call 46; ((with_reducible refine (HBt _).mono ?_); rintro r w' ⟨rfl, rfl⟩)))
 generalize World.alloc w _ = w0 at HN HB ⊢
 have hc := ten_cell HN.out k hk
 go_wp2_with (go_at_call 48; ((with_reducible refine (HAdd.out _ HB.out).mono ?_); rintro r w1 ⟨v', rfl, hv, g1, gf⟩; have HV := hid hv; have HG := hid g1; have HF := hid gf; clear hv g1 gf))
 go_ret
 refine ⟨v', rfl, by rw [HR.out]; exact HV.out.below (Ev.bal (Ev.br _) _), Ev.bal (Ev.bt HB.out HG.out) _, ?_⟩
 rcases HF.out with e | e
 · exact .inl e
 · exact .inr fun k hk => ⟨Nat.le_trans HB.out.size (e k hk).1, Nat.lt_of_lt_of_le (e k hk).2 (by simp)⟩

end Go.Proofs.YtigjflacinlafaaGreatDoor.Gm

namespace Go.Proofs.YtigjflacinlafaaGreatDoor.Gm
open Go.RowKit Go.Proofs.YtigjflacinlafaaGreatDoor.Fx Go.Proofs.YtigjflacinlafaaGreatDoor.Tg Go.Proofs.YtigjflacinlafaaGreatDoor.Dc
open Go.Proofs.YtigjflacinlafaaGreatDoor.Ev (Ev Ky addR pageI At ecs Pg Evs)
open Go.Proofs.YtigjflacinlafaaGreatDoor.Sh (In32 vec box insideB touchB slI mvP mvV wallI)
set_option linter.unusedVariables false

theorem stC_pt (s : St) (k : Nat) (hk : k < 2) : ∀ j v, (plC (plS s k))[j]? = some v → ((stC s).toArray)[4 + k * 10 + j]? = some v := by
 intro j v hv
 have hh : k = 0 ∨ k = 1 := by omega
 have hj : j < 10 := (List.getElem?_eq_some_iff.1 hv).1
 have h2 : (plsC s)[k * 10 + j]? = some v := by
  rcases hh with rfl | rfl
  · rw [Nat.zero_mul, Nat.zero_add]
    show (plC s.p0 ++ plC s.p1)[j]? = some v
    rw [List.getElem?_append_left (by show j < 10; exact hj)]
    exact hv
  · show (plC s.p0 ++ plC s.p1)[1 * 10 + j]? = some v
    rw [List.getElem?_append_right (by show 10 ≤ 1 * 10 + j; omega), show 1 * 10 + j - (plC s.p0).length = j from by show 1 * 10 + j - 10 = j; omega]
    exact hv
 rw [Nat.add_assoc]
 exact stC_pl s _ v h2
theorem stC_bt (s : St) (k : Nat) (hk : k < 6) : ∀ j v, (buC (shS s k))[j]? = some v → ((stC s).toArray)[24 + k * 6 + j]? = some v := by
 intro j v hv
 have hh : k = 0 ∨ k = 1 ∨ k = 2 ∨ k = 3 ∨ k = 4 ∨ k = 5 := by omega
 have hj : j < 6 := (List.getElem?_eq_some_iff.1 hv).1
 have h2 : (shC s)[k * 6 + j]? = some v := by
  have hj6 : j = 0 ∨ j = 1 ∨ j = 2 ∨ j = 3 ∨ j = 4 ∨ j = 5 := by omega
  rcases hh with rfl | rfl | rfl | rfl | rfl | rfl <;> rcases hj6 with rfl | rfl | rfl | rfl | rfl | rfl <;> exact hv
 rw [Nat.add_assoc]
 exact stC_sh0 s _ v h2
theorem evs_setc {w : World} {v : Value} {l : List Ev} (h : Evs w v l) {g : Nat} (hn : l = [] ∨ ∀ k, v.ownBlock = some k → k ≠ g) (j : Nat) (u : Value) : Evs (w.setCell ⟨g, j, none⟩ u) v l := by
 obtain ⟨a, L, cap, rfl, h1, h2, h3, h4⟩ := h
 refine ⟨a, L, cap, rfl, h1, h2, h3, fun hp => ?_⟩
 rcases hn with rfl | hn
 · simp at hp
 obtain ⟨c, o, rfl, hc, hr⟩ := h4 hp
 have hcg : c ≠ g := hn c rfl
 refine ⟨c, o, rfl, by simpa [World.setCell] using hc, fun j hj i u hu => ?_⟩
 have := hr j hj i u hu
 rw [← this]
 unfold World.cell?
 rw [Below.heap_setCell _ _ _ _ hcg]
theorem evs_setr {w : World} {v : Value} {l : List Ev} (h : Evs w v l) {g : Nat} (hn : l = [] ∨ ∀ k, v.ownBlock = some k → k ≠ g) (cs : Array Value) : Evs (w.setRow g cs) v l := by
 obtain ⟨a, L, cap, rfl, h1, h2, h3, h4⟩ := h
 refine ⟨a, L, cap, rfl, h1, h2, h3, fun hp => ?_⟩
 rcases hn with rfl | hn
 · simp at hp
 obtain ⟨c, o, rfl, hc, hr⟩ := h4 hp
 have hcg : c ≠ g := hn c rfl
 refine ⟨c, o, rfl, by simpa [World.setRow] using hc, fun j hj i u hu => ?_⟩
 have := hr j hj i u hu
 rw [← this]
 unfold World.cell? World.setRow
 simp only [Array.getElem?_modify]
 rw [if_neg (by omega)]

/-- the state and the player that came in, the answer's own, the events till now. -/
structure Rm (w W : World) (s : St) (p : Pl) (v0 v : Value) (l : List Ev) : Prop where
 st : At W w.heap.size (stC s).toArray 35
 res : At W (w.heap.size + 1) (stC zeroS).toArray 35
 pl : At W (w.heap.size + 1 + 1) (plA p) 29
 ev : Evs W v l
 frv : Ev.Frv w W v0 v
 off : Off w.heap.size (w.heap.size + 1 + 1) v l
 old : Below w.heap.size w W
section
variable {w W W' : World} {s : St} {p : Pl} {v0 v v' : Value} {l l' : List Ev}
theorem Rm.below (h : Rm w W s p v0 v l) (g : Below W.heap.size W W') : Rm w W' s p v0 v l :=
 ⟨h.st.below g, h.res.below g, h.pl.below g, h.ev.below g, by rcases h.frv with e | e; exact .inl e; exact .inr fun k hk => ⟨(e k hk).1, Nat.lt_of_lt_of_le (e k hk).2 g.size⟩, h.off, Ev.bt h.old g⟩
theorem Rm.far (h : Rm w W s p v0 v l) {k : Nat} (hk : w.heap.size ≤ k ∧ k ≤ w.heap.size + 1 + 1) : l = [] ∨ ∀ i, v.ownBlock = some i → i ≠ k := by
 rcases h.off with e | e
 · exact .inl e
 · exact .inr fun i hi => by have := e i hi; omega
theorem frv_set {u : World} (h : Ev.Frv w W v0 v) (e : u.heap.size = W.heap.size) : Ev.Frv w u v0 v := by
 rcases h with h | h
 · exact .inl h
 · exact .inr fun k hk => ⟨(h k hk).1, by rw [e]; exact (h k hk).2⟩
theorem size_set (W : World) (a : Addr) (u : Value) : (W.setCell a u).heap.size = W.heap.size := by simp [World.setCell]
theorem size_row (W : World) (g : Nat) (cs : Array Value) : (W.setRow g cs).heap.size = W.heap.size := by simp [World.setRow]
/-- one field of the player. -/
theorem Rm.setp (h : Rm w W s p v0 v l) {j : Nat} {u : Value} {p' : Pl} (e : plA p' = (plA p).setIfInBounds j u) : Rm w (W.setCell ⟨w.heap.size + 1 + 1, j, none⟩ u) s p' v0 v l :=
 ⟨h.st.far (by omega) u, h.res.far (by omega) u, by rw [e]; exact at_set h.pl j u, evs_setc h.ev (h.far ⟨by omega, by omega⟩) j u, frv_set h.frv (size_set _ _ _), h.off, h.old.setCell (p := ⟨w.heap.size + 1 + 1, j, none⟩) (by show w.heap.size ≤ w.heap.size + 1 + 1; omega) u⟩
/-- one field of the state. -/
theorem Rm.sets (h : Rm w W s p v0 v l) {j : Nat} {u : Value} {s' : St} (e : (stC s').toArray = (stC s).toArray.setIfInBounds j u) : Rm w (W.setCell ⟨w.heap.size, j, none⟩ u) s' p v0 v l :=
 ⟨by rw [e]; exact at_set h.st j u, h.res.far (by omega) u, h.pl.far (by omega) u, evs_setc h.ev (h.far ⟨by omega, by omega⟩) j u, frv_set h.frv (size_set _ _ _), h.off, h.old.setCell (p := ⟨w.heap.size, j, none⟩) (Nat.le_refl _) u⟩
/-- the state, whole. -/
theorem Rm.row (h : Rm w W s p v0 v l) (s' : St) : Rm w (W.setRow w.heap.size (stC s').toArray) s' p v0 v l :=
 ⟨at_row h.st _, at_row_far h.res (by omega) _, at_row_far h.pl (by omega) _, evs_setr h.ev (h.far ⟨by omega, by omega⟩) _, frv_set h.frv (size_row _ _ _), h.off, below_row h.old (Nat.le_refl _) _⟩
/-- behind what was told. -/
theorem Rm.told (h : Rm w W s p v0 v l) (hv : Evs W' v' l') (g : Below W.heap.size W W') (hf : Ev.Frv W W' v v') : Rm w W' s p v0 v' l' := by
 have h1 := h.below g
 refine ⟨h1.st, h1.res, h1.pl, hv, frv_trans h.frv hf h.old.size g.size, ?_, h1.old⟩
 rcases hf with rfl | hf
 · rcases h.off with e | e
   · left
     obtain ⟨a, L, cap, e1, h1, _⟩ := hv
     obtain ⟨a2, L2, cap2, e2, h2, _⟩ := h.ev
     rw [e1] at e2
     cases e2
     rw [e] at h2
     exact List.length_eq_zero_iff.1 (by rw [h1, ← h2]; rfl)
   · exact .inr e
 · exact .inr fun k hk => .inr (by have := (hf k hk).1; have := h.pl.lt; omega)
/-- the answer. -/
theorem Rm.answer (h : Rm w W s p v0 v l) : At (W.setRow (w.heap.size + 1) (stC s).toArray) (w.heap.size + 1) (stC s).toArray 35 ∧ Evs (W.setRow (w.heap.size + 1) (stC s).toArray) v l ∧ Below w.heap.size w (W.setRow (w.heap.size + 1) (stC s).toArray) ∧ Ev.Frv w (W.setRow (w.heap.size + 1) (stC s).toArray) v0 v :=
 ⟨at_row h.res _, evs_setr h.ev (h.far ⟨by omega, by omega⟩) _, below_row h.old (by omega) _, frv_set h.frv (size_row _ _ _)⟩
end
theorem rm_new (w : World) (s : St) (p : Pl) (v : Value) (l : List Ev) (h : Evs w v l) : Rm w (((w.alloc (.cells (stC s).toArray 35)).alloc (.cells (stC zeroS).toArray 35)).alloc (.cells (plA p) 29)) s p v v l := by
 have g : Below w.heap.size w (((w.alloc (.cells (stC s).toArray 35)).alloc (.cells (stC zeroS).toArray 35)).alloc (.cells (plA p) 29)) := Ev.bal (Ev.bal (Ev.bal (Ev.br w) _) _) _
 refine ⟨((At.new w _ _).more _).more _, (At.newAt _ _ _ (by simp)).more _, At.newAt _ _ _ (by simp), h.below g, .inl rfl, ?_, g⟩
 obtain ⟨a, L, cap, rfl, h1, _, _, h4⟩ := h
 by_cases hl : l = []
 · exact .inl hl
 · obtain ⟨b, o, rfl, hb, _⟩ := h4 (List.length_pos_iff.2 hl)
   refine .inr fun k hk => .inl ?_
   have : b = k := by simpa [Value.ownBlock] using hk
   omega
theorem results_cell_tmp {P : Program} {fn : Func} {p u : Tmp} {ty : TypeId} (h : fn.results = #[.cell p ty, .tmp u]) (tmps : Array Value) (w : World) (g : Nat) (t : TypeId) (cs : Array Value) (fr : Nat × Nat) (d : TypeDesc)
 (hp : tmps.getD p undef = .pointer (some ⟨g, 0, none⟩)) (hg : w.heap[g]? = some (.cells cs t fr))
 (hu : P.underlying ty = some d) (hd : (match d with | .struct _ | .array _ _ => true | _ => false) = true) (hi : (P.info? ty).map (·.size) = some cs.size) :
 (results fn tmps).run P w = .ok (.tuple #[.agg cs, tmps.getD u undef]) w := by
 have hp' : tmps[p]?.getD undef = .pointer (some ⟨g, 0, none⟩) := by simpa using hp
 simp [results, h, hp', asAddr, run_loadVar_row w g t ty cs fr d hg hu hd hi]

end Go.Proofs.YtigjflacinlafaaGreatDoor.Gm
