/- What Step answers (layer 12, game). -/
/- Run: step by step (layer 12, game). -/
/- The chapter's example (layer 12, game). -/
/- A load behind a guard that holds (layer 12, game). -/
/- What Run answers, as one function; run in parts (layer 12, game). -/
import Derived.Test.YtigjflacinlafaaGreatDoorGmStep
import Derived.Test.YtigjflacinlafaaGreatDoorGmGood
import Derived.Test.YtigjflacinlafaaGreatDoorGmFly
import Derived.Deep.DeepCutAuto
import Derived.Test.YtigjflacinlafaaGreatDoorJ6
import Derived.Deep.AppendSrc
namespace Go.Proofs.YtigjflacinlafaaGreatDoor.Gm
open Go.RowKit Go.Proofs.YtigjflacinlafaaGreatDoor.Fx Go.Proofs.YtigjflacinlafaaGreatDoor.Tg Go.Proofs.YtigjflacinlafaaGreatDoor.Dc
open Go.Proofs.YtigjflacinlafaaGreatDoor.Ev (Ev Ky addR pageI At ecs Pg Evs)
open Go.Proofs.YtigjflacinlafaaGreatDoor.Sh (In32 vec box insideB touchB slI mvP mvV wallI)
set_option linter.unusedVariables false

set_option maxRecDepth 100000 in
set_option maxHeartbeats 2000000 in
theorem step_no0 (s : St) (a b : Int) (w : World) (hr : rightS s = false) :
 Calls Tryz.prog 13 #[.agg (stC s).toArray, .agg #[.int .u8 a, .int .u8 b]] w fun e w' => e = .returned (.tuple #[.agg (stC zeroS).toArray, .slice none 0 0, .int .i64 1]) ∧ Below w.heap.size w w' := by
 have HM := hid (sm_new w s a b)
 generalize hC : stC s = cs at HM
 go_enter Tryz.func13, Tryz.ntmps13
 go_upto_region 1 with fail
 generalize hw : World.alloc _ _ = w0
 have HM0 : Hid (Sm w w0 s zeroS a b) := hid (by rw [← hw, ← hC]; exact sm_new w s a b)
 clear hw HM
 subst hC
 obtain ⟨i0, i1⟩ := HM0.out.inp.two
 obtain ⟨c0, c1, c2, c3⟩ := at_st HM0.out.st
 go_wp2_with (first
  | (refine wpList_load_at rfl 35 _ rfl w.heap.size 0 rfl 35 _ (stC s) (0, 0) _ HM0.out.st Tryz.underlying35 rfl (by kernel_rfl) (fun j v hv => by rw [Nat.zero_add, List.getElem?_toArray]; exact hv) ?_)
  | (go_at_call 12; ((with_reducible refine (right_c _ _).mono ?_); rintro e w1 ⟨rfl, g1⟩; rw [hr]; have HM1 := hid (HM0.out.below g1); obtain ⟨i0, i1⟩ := HM1.out.inp.two; obtain ⟨c0, c1, c2, c3⟩ := at_st HM1.out.st))
  | (refine wpList_store_at rfl 35 _ _ rfl (w.heap.size + 1 + 1) 0 (stC zeroS) rfl rfl 35 _ HM1.out.res (by kernel_rfl) (by show 60 ≤ 60; decide) rfl ?_))
 have HR := hid (at_row HM1.out.res (stC zeroS).toArray)
 have HB := hid (below_row HM1.out.old (show w.heap.size ≤ w.heap.size + 1 + 1 by omega) (stC zeroS).toArray)
 refine bodyPost_ret (results_cell_tmps rfl _ _ (w.heap.size + 1 + 1) 35 (stC zeroS).toArray (0, 0) _ rfl HR.out Tryz.underlying35 rfl (by kernel_rfl)) rfl ?_
 exact ⟨rfl, HB.out⟩

set_option maxRecDepth 100000 in
set_option maxHeartbeats 2000000 in
theorem step_no1 (s : St) (a b : Int) (w : World) (hr : rightS s = true) (ha : 63 < a) :
 Calls Tryz.prog 13 #[.agg (stC s).toArray, .agg #[.int .u8 a, .int .u8 b]] w fun e w' => e = .returned (.tuple #[.agg (stC zeroS).toArray, .slice none 0 0, .int .i64 1]) ∧ Below w.heap.size w w' := by
 have HM := hid (sm_new w s a b)
 generalize hC : stC s = cs at HM
 go_enter Tryz.func13, Tryz.ntmps13
 go_upto_region 1 with fail
 generalize hw : World.alloc _ _ = w0
 have HM0 : Hid (Sm w w0 s zeroS a b) := hid (by rw [← hw, ← hC]; exact sm_new w s a b)
 clear hw HM
 subst hC
 obtain ⟨i0, i1⟩ := HM0.out.inp.two
 obtain ⟨c0, c1, c2, c3⟩ := at_st HM0.out.st
 go_wp2_with (first
  | (refine wpList_load_at rfl 35 _ rfl w.heap.size 0 rfl 35 _ (stC s) (0, 0) _ HM0.out.st Tryz.underlying35 rfl (by kernel_rfl) (fun j v hv => by rw [Nat.zero_add, List.getElem?_toArray]; exact hv) ?_)
  | (go_at_call 12; ((with_reducible refine (right_c _ _).mono ?_); rintro e w1 ⟨rfl, g1⟩; rw [hr]; have HM1 := hid (HM0.out.below g1); obtain ⟨i0, i1⟩ := HM1.out.inp.two; obtain ⟨c0, c1, c2, c3⟩ := at_st HM1.out.st))
  | (refine wpList_store_at rfl 35 _ _ rfl (w.heap.size + 1 + 1) 0 (stC zeroS) rfl rfl 35 _ HM1.out.res (by kernel_rfl) (by show 60 ≤ 60; decide) rfl ?_))
 have HR := hid (at_row HM1.out.res (stC zeroS).toArray)
 have HB := hid (below_row HM1.out.old (show w.heap.size ≤ w.heap.size + 1 + 1 by omega) (stC zeroS).toArray)
 refine bodyPost_ret (results_cell_tmps rfl _ _ (w.heap.size + 1 + 1) 35 (stC zeroS).toArray (0, 0) _ rfl HR.out Tryz.underlying35 rfl (by kernel_rfl)) rfl ?_
 exact ⟨rfl, HB.out⟩

set_option maxRecDepth 100000 in
set_option maxHeartbeats 2000000 in
theorem step_no2 (s : St) (a b : Int) (w : World) (hr : rightS s = true) (ha : a ≤ 63) (hb : 63 < b) :
 Calls Tryz.prog 13 #[.agg (stC s).toArray, .agg #[.int .u8 a, .int .u8 b]] w fun e w' => e = .returned (.tuple #[.agg (stC zeroS).toArray, .slice none 0 0, .int .i64 1]) ∧ Below w.heap.size w w' := by
 have HM := hid (sm_new w s a b)
 generalize hC : stC s = cs at HM
 go_enter Tryz.func13, Tryz.ntmps13
 go_upto_region 1 with fail
 generalize hw : World.alloc _ _ = w0
 have HM0 : Hid (Sm w w0 s zeroS a b) := hid (by rw [← hw, ← hC]; exact sm_new w s a b)
 clear hw HM
 subst hC
 obtain ⟨i0, i1⟩ := HM0.out.inp.two
 obtain ⟨c0, c1, c2, c3⟩ := at_st HM0.out.st
 have ha1 : ¬ 63 < a := by omega
 go_wp2_with (first
  | (refine wpList_load_at rfl 35 _ rfl w.heap.size 0 rfl 35 _ (stC s) (0, 0) _ HM0.out.st Tryz.underlying35 rfl (by kernel_rfl) (fun j v hv => by rw [Nat.zero_add, List.getElem?_toArray]; exact hv) ?_)
  | (go_at_call 12; ((with_reducible refine (right_c _ _).mono ?_); rintro e w1 ⟨rfl, g1⟩; rw [hr]; have HM1 := hid (HM0.out.below g1); obtain ⟨i0, i1⟩ := HM1.out.inp.two; obtain ⟨c0, c1, c2, c3⟩ := at_st HM1.out.st))
  | (refine wpList_store_at rfl 35 _ _ rfl (w.heap.size + 1 + 1) 0 (stC zeroS) rfl rfl 35 _ HM1.out.res (by kernel_rfl) (by show 60 ≤ 60; decide) rfl ?_))
 have HR := hid (at_row HM1.out.res (stC zeroS).toArray)
 have HB := hid (below_row HM1.out.old (show w.heap.size ≤ w.heap.size + 1 + 1 by omega) (stC zeroS).toArray)
 refine bodyPost_ret (results_cell_tmps rfl _ _ (w.heap.size + 1 + 1) 35 (stC zeroS).toArray (0, 0) _ rfl HR.out Tryz.underlying35 rfl (by kernel_rfl)) rfl ?_
 exact ⟨rfl, HB.out⟩

set_option maxRecDepth 100000 in
set_option maxHeartbeats 2000000 in
theorem step_no3 (s : St) (a b : Int) (w : World) (hr : rightS s = true) (ha : a ≤ 63) (hb : b ≤ 63) (hf : s.fr = 1073741824) :
 Calls Tryz.prog 13 #[.agg (stC s).toArray, .agg #[.int .u8 a, .int .u8 b]] w fun e w' => e = .returned (.tuple #[.agg (stC zeroS).toArray, .slice none 0 0, .int .i64 5]) ∧ Below w.heap.size w w' := by
 have HM := hid (sm_new w s a b)
 generalize hC : stC s = cs at HM
 go_enter Tryz.func13, Tryz.ntmps13
 go_upto_region 1 with fail
 generalize hw : World.alloc _ _ = w0
 have HM0 : Hid (Sm w w0 s zeroS a b) := hid (by rw [← hw, ← hC]; exact sm_new w s a b)
 clear hw HM
 subst hC
 obtain ⟨i0, i1⟩ := HM0.out.inp.two
 obtain ⟨c0, c1, c2, c3⟩ := at_st HM0.out.st
 have ha1 : ¬ 63 < a := by omega
 have hb1 : ¬ 63 < b := by omega
 go_wp2_with (first
  | (refine wpList_load_at rfl 35 _ rfl w.heap.size 0 rfl 35 _ (stC s) (0, 0) _ HM0.out.st Tryz.underlying35 rfl (by kernel_rfl) (fun j v hv => by rw [Nat.zero_add, List.getElem?_toArray]; exact hv) ?_)
  | (go_at_call 12; ((with_reducible refine (right_c _ _).mono ?_); rintro e w1 ⟨rfl, g1⟩; rw [hr]; have HM1 := hid (HM0.out.below g1); obtain ⟨i0, i1⟩ := HM1.out.inp.two; obtain ⟨c0, c1, c2, c3⟩ := at_st HM1.out.st))
  | (refine wpList_store_at rfl 35 _ _ rfl (w.heap.size + 1 + 1) 0 (stC zeroS) rfl rfl 35 _ HM1.out.res (by kernel_rfl) (by show 60 ≤ 60; decide) rfl ?_))
 have HR := hid (at_row HM1.out.res (stC zeroS).toArray)
 have HB := hid (below_row HM1.out.old (show w.heap.size ≤ w.heap.size + 1 + 1 by omega) (stC zeroS).toArray)
 refine bodyPost_ret (results_cell_tmps rfl _ _ (w.heap.size + 1 + 1) 35 (stC zeroS).toArray (0, 0) _ rfl HR.out Tryz.underlying35 rfl (by kernel_rfl)) rfl ?_
 exact ⟨rfl, HB.out⟩

/-- what Step answers: the next state, the events, the error. -/
def stepR (s : St) (a b : Int) : St × List Ev × Int :=
 if rightS s = true ∧ a ≤ 63 ∧ b ≤ 63 then (if s.fr = 1073741824 then (zeroS, [], 5) else ((stepP s a b).1, (stepP s a b).2, 0)) else (zeroS, [], 1)
theorem step_all (s : St) (a b : Int) (w : World) (htab : Tab w) (hty : tyS s) (ha : 0 ≤ a) (hb : 0 ≤ b) :
 Calls Tryz.prog 13 #[.agg (stC s).toArray, .agg #[.int .u8 a, .int .u8 b]] w fun e w' => ∃ v, e = .returned (.tuple #[.agg (stC (stepR s a b).1).toArray, v, .int .i64 (stepR s a b).2.2]) ∧ Evs w' v (stepR s a b).2.1 ∧ Below w.heap.size w w' ∧ (stepR s a b).2.1.length ≤ 64 ∧ ((stepR s a b).2.2 = 0 → pageI s.fr (stepR s a b).2.1) ∧ ((stepR s a b).2.2 ≠ 0 → v = .slice none 0 0) ∧ ∀ k, v.ownBlock = some k → w.heap.size ≤ k := by
 cases hr : rightS s
 · have e : stepR s a b = (zeroS, [], 1) := by unfold stepR; rw [hr]; rfl
   rw [e]
   refine (step_no0 s a b w hr).mono fun e' w' ⟨h1, h2⟩ => ⟨_, h1, Ev.Sl.nil _ _ _, h2, by simp, fun h => absurd h (by decide), fun _ => rfl, fun k e => by simp [Value.ownBlock] at e⟩
 by_cases ha1 : a ≤ 63
 · by_cases hb1 : b ≤ 63
   · by_cases hf : s.fr = 1073741824
     · have e : stepR s a b = (zeroS, [], 5) := by unfold stepR; rw [if_pos ⟨hr, ha1, hb1⟩, if_pos hf]
       rw [e]
       refine (step_no3 s a b w hr ha1 hb1 hf).mono fun e' w' ⟨h1, h2⟩ => ⟨_, h1, Ev.Sl.nil _ _ _, h2, by simp, fun h => absurd h (by decide), fun _ => rfl, fun k e => by simp [Value.ownBlock] at e⟩
     · have e : stepR s a b = ((stepP s a b).1, (stepP s a b).2, 0) := by unfold stepR; rw [if_pos ⟨hr, ha1, hb1⟩, if_neg hf]
       rw [e]
       have hfr := (right_ms hr hty).fr
       refine (step_c s a b w htab hty hr ⟨ha, ha1⟩ ⟨hb, hb1⟩ (by omega)).mono fun e' w' ⟨v, h1, h2, h3, h4, h5⟩ => ⟨v, h1, h2, h3, h4.2.2.1, fun _ => h4, fun h => absurd rfl h, h5⟩
   · have e : stepR s a b = (zeroS, [], 1) := by unfold stepR; rw [if_neg (by intro h; exact hb1 h.2.2)]
     rw [e]
     refine (step_no2 s a b w hr ha1 (by omega)).mono fun e' w' ⟨h1, h2⟩ => ⟨_, h1, Ev.Sl.nil _ _ _, h2, by simp, fun h => absurd h (by decide), fun _ => rfl, fun k e => by simp [Value.ownBlock] at e⟩
 · have e : stepR s a b = (zeroS, [], 1) := by unfold stepR; rw [if_neg (by intro h; exact ha1 h.2.1)]
   rw [e]
   refine (step_no1 s a b w hr (by omega)).mono fun e' w' ⟨h1, h2⟩ => ⟨_, h1, Ev.Sl.nil _ _ _, h2, by simp, fun h => absurd h (by decide), fun _ => rfl, fun k e => by simp [Value.ownBlock] at e⟩

end Go.Proofs.YtigjflacinlafaaGreatDoor.Gm

namespace Go.Proofs.YtigjflacinlafaaGreatDoor.Gm
open Go.RowKit Go.Proofs.YtigjflacinlafaaGreatDoor.Fx Go.Proofs.YtigjflacinlafaaGreatDoor.Tg Go.Proofs.YtigjflacinlafaaGreatDoor.Dc
open Go.Proofs.YtigjflacinlafaaGreatDoor.Ev (Ev Ky addR pageI At ecs Pg Evs flat)
open Go.Proofs.YtigjflacinlafaaGreatDoor.Sh (In32 vec box insideB touchB slI mvP mvV wallI)
set_option linter.unusedVariables false

theorem own_old {w w' : World} {B n k : Nat} {t : TypeId} {v : Value} {xs : List Value} (h : w.ownsRow B t k v n xs) (g : Below w.heap.size w w') : w'.ownsRow B t k v n xs := by
 refine ⟨h.1, ?_⟩
 rcases h.2 with h | ⟨b, cap, cur, e, h1, h2, h3⟩
 · exact .inl h
 · exact .inr ⟨b, cap, cur, e, h1, by rw [g.block b (Array.getElem?_eq_some_iff.1 h2).1]; exact h2, h3⟩
theorem own_block {w : World} {B n k : Nat} {t : TypeId} {v : Value} {xs : List Value} (h : w.ownsRow B t k v n xs) {b : Nat} (hb : v.ownBlock = some b) : ∃ cur, w.heap[b]? = some (.cells cur t (0, 0)) := by
 rcases h.2 with ⟨rfl, _⟩ | ⟨g, cap, cur, rfl, _, h2, _⟩
 · simp [Value.ownBlock] at hb
 · simp [Value.ownBlock] at hb
   subst hb
   exact ⟨cur, h2⟩
/-- a block of another type isn't a list's own. -/
theorem at_not_row {w : World} {b B n k : Nat} {cs : Array Value} {t e : TypeId} {v : Value} {xs : List Value} (h : At w b cs t) (hr : w.ownsRow B e k v n xs) (hte : t ≠ e) : some b ≠ v.ownBlock := by
 intro hb
 obtain ⟨cur, h2⟩ := own_block hr hb.symm
 rw [show w.heap[b]? = _ from h] at h2
 injection h2 with h2
 injection h2 with _ h2
 exact hte h2
/-- two inputs. -/
abbrev incs (x : Int × Int) : List Value := [.int .u8 x.1, .int .u8 x.2]
abbrev Ins := Ev.Sl incs 2
theorem row_in {w : World} {ao : Option Addr} {l : List (Int × Int)} (h : Ev.Row incs 2 w ao l) {j : Nat} {x : Int × Int} (hx : l[j]? = some x) : ∃ b o, ao = some ⟨b, o, none⟩ ∧ b < w.heap.size ∧
 w.cell? ⟨b, o + j * 2, none⟩ = some (.int .u8 x.1) ∧ w.cell? ⟨b, o + j * 2 + 1, none⟩ = some (.int .u8 x.2) := by
 obtain ⟨hj, rfl⟩ := List.getElem?_eq_some_iff.1 hx
 obtain ⟨b, o, e, hlt, hc⟩ := h (by omega)
 exact ⟨b, o, e, hlt, hc j hj 0 _ rfl, hc j hj 1 _ rfl⟩

/-- one step more. -/
def accR (q : Q) (x : Int × Int) : Q := ((stepP q.1 x.1 x.2).1, q.2 ++ (stepP q.1 x.1 x.2).2)
/-- step by step. -/
def runQ (s : St) (l : List (Int × Int)) : Q := l.foldl accR (s, [])
theorem run_snoc (s : St) (l : List (Int × Int)) (x : Int × Int) : runQ s (l ++ [x]) = accR (runQ s l) x := by unfold runQ; rw [List.foldl_append]; rfl
theorem run_take {s : St} {l : List (Int × Int)} {k : Nat} {x : Int × Int} (hx : l[k]? = some x) : runQ s (l.take (k + 1)) = accR (runQ s (l.take k)) x := by rw [← Ev.take_snoc hx, run_snoc]
/-- the error that a step tells. -/
def errI (s : St) (x : Int × Int) : Int := (stepR s x.1 x.2).2.2
/-- the first k steps tell none. -/
def okTo (s : St) (l : List (Int × Int)) (k : Nat) : Prop := ∀ j, j < k → ∀ x, l[j]? = some x → errI (runQ s (l.take j)).1 x = 0
theorem okTo_step {s : St} {l : List (Int × Int)} {k : Nat} {x : Int × Int} (h : okTo s l k) (hx : l[k]? = some x) (he : errI (runQ s (l.take k)).1 x = 0) : okTo s l (k + 1) := by
 intro j hj y hy
 rcases Nat.lt_or_eq_of_le (Nat.le_of_lt_succ hj) with e | e
 · exact h j e y hy
 · subst e
   rw [hx] at hy
   cases hy
   exact he
theorem stepR_ok {s : St} {a b : Int} (h : (stepR s a b).2.2 = 0) : rightS s = true ∧ a ≤ 63 ∧ b ≤ 63 ∧ s.fr ≠ 1073741824 ∧ stepR s a b = ((stepP s a b).1, (stepP s a b).2, 0) := by
 unfold stepR at h ⊢
 split at h
 · rename_i h1
   split at h
   · simp at h
   · rename_i h2
     rw [if_pos h1, if_neg h2]
     exact ⟨h1.1, h1.2.1, h1.2.2, h2, rfl⟩
 · simp at h
theorem fresh_ty : tyP fresh0 ∧ tyP fresh1 := ⟨⟨by decide, by decide, by decide, by decide⟩, ⟨by decide, by decide, by decide, by decide⟩⟩
theorem step_ty {s : St} (h : Ms 2 s) (a b : Int) : tyS (stepP s a b).1 := by
 have h1 := (Ms.play (q := (s, [])) h (show 0 < 2 by decide) a)
 have h2 := h1.play (show 1 < 2 by decide) b
 have h3 := h2.clash
 have h4 := h3.flies (by omega) 6 (Nat.le_refl _)
 show tyS (lastP (countP (fliesP 6 (clashP (playP 1 b (playP 0 a (s, []))))))).1
 generalize fliesP 6 (clashP (playP 1 b (playP 0 a (s, [])))) = q at h4
 have h5 := ms_ty h4
 unfold countP
 split
 · exact ⟨h5.1, fresh_ty.1, fresh_ty.2, zero_ok.1.ty, zero_ok.1.ty, zero_ok.1.ty, zero_ok.1.ty, zero_ok.1.ty, zero_ok.1.ty⟩
 · exact h5

/-- the memory of a run: the state till now, the answer's own, all events till now. -/
structure Ru (w W : World) (s : St) (all : Value) (ev : List Ev) : Prop where
 st : At W w.heap.size (stC s).toArray 35
 res : At W (w.heap.size + 1) (stC zeroS).toArray 35
 own : W.ownsRow w.heap.size 53 9 all ev.length (flat ecs ev)
 old : Below w.heap.size w W
theorem Ru.below {w W W' : World} {s : St} {all : Value} {ev : List Ev} (h : Ru w W s all ev) (g : Below W.heap.size W W') : Ru w W' s all ev := ⟨h.st.below g, h.res.below g, own_old h.own g, Ev.bt h.old g⟩
theorem own_row {w : World} {B n k b : Nat} {t : TypeId} {v : Value} {xs : List Value} (h : w.ownsRow B t k v n xs) (hne : some b ≠ v.ownBlock) (cs : Array Value) : (w.setRow b cs).ownsRow B t k v n xs := by
 refine ⟨h.1, ?_⟩
 rcases h.2 with h | ⟨g, cap, cur, e, h1, h2, h3⟩
 · exact .inl h
 · refine .inr ⟨g, cap, cur, e, h1, ?_, h3⟩
   subst e
   unfold World.setRow
   simp only [Array.getElem?_modify]
   rw [if_neg (by intro e; subst e; exact hne rfl)]
   exact h2
theorem Ru.put {w W : World} {s : St} {all : Value} {ev : List Ev} (h : Ru w W s all ev) (s' : St) : Ru w (W.setRow w.heap.size (stC s').toArray) s' all ev :=
 ⟨at_row h.st _, at_row_far h.res (by omega) _, own_row h.own (at_not_row h.st h.own (by decide)) _, below_row h.old (Nat.le_refl _) _⟩
theorem run_new (w : World) (s : St) : Ru w ((w.alloc (.cells (stC s).toArray 35)).alloc (.cells (stC zeroS).toArray 35)) s (.slice none 0 0) [] :=
 ⟨(At.new w _ _).more _, At.newAt _ _ _ (by simp), ⟨by simp [flat], .inl ⟨rfl, rfl⟩⟩, Ev.bal (Ev.bal (Ev.br w) _) _⟩

theorem grown_self (w : World) (o : Option Nat) : w.grownBy w o := ⟨rfl, rfl, rfl, Nat.le_refl _, fun _ _ _ => rfl⟩
theorem app_none {P : Program} {w : World} (base : Nat) (t ty e : TypeId) (i : TypeInfo) (size c : Nat) (ht : P.underlying t = some (.slice e)) (hi : P.info? e = some i)
 (v : Value) (n : Nat) (xs : List Value) (hown : w.ownsRow base e size v n xs) :
 (Builtin.append_ #[t, t] ty #[v, .slice none 0 c]).run P w = .ok v w := by
 rcases hown.2 with ⟨rfl, rfl⟩ | ⟨g, cap, cur, rfl, _, _, hnc, _⟩
 · simp [Builtin.append_, run_underlying ht, sizeOf, typeInfo, hi, Builtin.lenOf, Builtin.firstCells]
 · simp [Builtin.append_, run_underlying ht, sizeOf, typeInfo, hi, Builtin.lenOf, Builtin.firstCells, hnc, storeCells]
/-- some events that are read, at the end of a list of the call's own. -/
theorem app_evs {ops : Array Oper} {rest : List Oper} {o : Oper} {a : Act} {Q : Exit → Act → World → Prop} (w : World) (hgd : o.guard = none) (s x : Operand)
 (ho : o.op = .call { callee := .builtin .append, args := #[s, x], argTypes := #[36, 36] })
 (B : Nat) (v : Value) (l : List Ev) (hs : a.eval s = v) (hown : w.ownsRow B 53 9 v l.length (flat ecs l)) (u : Value) (k : List Ev) (hu : Evs w u k) (hx : a.eval x = u) (hlen : l.length ≤ 1000000) (hlen2 : k.length ≤ 1000000) (hB : B ≤ w.heap.size)
 (h : ∀ v' w', w'.ownsRow B 53 9 v' (l ++ k).length (flat ecs (l ++ k)) → w.grownBy w' v.ownBlock → wpList Tryz.prog ops Q rest (a.put o.dst v') w') :
 wpList Tryz.prog ops Q (o :: rest) a w := by
 obtain ⟨i0, hi, hz0, hz1, hz2⟩ := info_parts Ev.info_event
 obtain ⟨ao, L, cap, rfl, hL, hc, hm, ht⟩ := hu
 cases ao with
 | none =>
  have h0 : k.length = 0 := by
   rcases Nat.eq_zero_or_pos k.length with e | e
   · exact e
   · obtain ⟨b, o, e, _⟩ := ht e
     cases e
  have hnil : k = [] := List.length_eq_zero_iff.1 h0
  subst hnil
  obtain rfl : L = 0 := by simpa using hL.symm
  refine wpList_plain hgd fun K hK => ?_
  have hrun := app_none (P := Tryz.prog) (w := w) B 36 o.type 53 i0 9 cap Tryz.underlying36 hi v l.length (flat ecs l) hown
  unfold Oper.wp
  simp [execOp, ho, resolve, invoke, builtin, hs, hx, hrun, Result.andThen]
  exact hK _ _ (h v w (by simpa using hown) (grown_self _ _))
 | some ad =>
  have hF := Ev.row_flat (k := 9) (fun _ => rfl) (by decide) ht
  have hfl : (flat ecs k).length = k.length * 9 := Ev.flat_len (enc := ecs) (fun _ => rfl) k
  refine wpList_append_own_at _ hgd s x 36 ho B 53 i0 (Ev.ev Ev.zeroE) 9 72 Tryz.underlying36 hi hz0 hz1 hz2 rfl (by decide) v l.length (flat ecs l) hs hown ad L cap (flat ecs k) hx (by rw [hfl, hL]) hF (Ev.flat_cell Ev.ecs_one k) (by unfold maxLen; omega) (by omega) (by omega) ?_
  intro v' w' h1 h2 _ h3
  refine h v' w' ?_ h2
  rw [Ev.flat_append, List.length_append, hL]
  exact h1
theorem Ru.app {w W W' : World} {s : St} {all all' : Value} {ev k : List Ev} (h : Ru w W s all ev) (ho : W'.ownsRow w.heap.size 53 9 all' (ev ++ k).length (flat ecs (ev ++ k))) (hg : W.grownBy W' all.ownBlock) : Ru w W' s all' (ev ++ k) :=
 ⟨h.st.kept hg (at_not_row h.st h.own (by decide)), h.res.kept hg (at_not_row h.res h.own (by decide)), ho, h.old.grown hg h.old.size (fun j e => (h.own.lt j e).1)⟩
theorem stC_self (s : St) : ∀ j v, (stC s)[j]? = some v → ((stC s).toArray)[0 + j]? = some v := by
 intro j v h
 rw [Nat.zero_add, List.getElem?_toArray]
 exact h

set_option maxRecDepth 100000 in
set_option maxHeartbeats 2000000 in
theorem run_c (s : St) (v : Value) (l : List (Int × Int)) (w : World) (htab : Tab w) (hty : tyS s) (h : Ins w v l) (hb : ∀ x, x ∈ l → 0 ≤ x.1 ∧ 0 ≤ x.2) (hlen : l.length ≤ 400) :
 Calls Tryz.prog 6 #[.agg (stC s).toArray, v] w fun e w' => Below w.heap.size w w' ∧
  ((∃ v', e = .returned (.tuple #[.agg (stC (runQ s l).1).toArray, v', .int .i64 0]) ∧ okTo s l l.length ∧ w'.ownsRow w.heap.size 53 9 v' (runQ s l).2.length (flat ecs (runQ s l).2) ∧ (runQ s l).2.length ≤ 64 * l.length) ∨
   (∃ k x, l[k]? = some x ∧ okTo s l k ∧ errI (runQ s (l.take k)).1 x ≠ 0 ∧ e = .returned (.tuple #[.agg (stC zeroS).toArray, .slice none 0 0, .int .i64 (errI (runQ s (l.take k)).1 x)]))) := by
 have HI := hid h
 have HTb := hid htab
 have HBd := hid hb
 obtain ⟨ao, L, cap, rfl, hL, hc, hm, ht⟩ := h
 have HL := hid hL
 have HT := hid ht
 have hl4 : L ≤ 400 := by omega
 have HTy := hid hty
 have HM := hid (run_new w s)
 clear hL ht htab hb hty
 generalize hC : stC s = cs at HM
 go_enter Tryz.func6, Tryz.ntmps6
 go_upto_region 2 with fail
 generalize hw : World.alloc _ _ = w0
 have HM0 : Hid (Ru w w0 s (.slice none 0 0) []) := hid (by rw [← hw, ← hC]; exact run_new w s)
 clear hw HM
 subst hC
 go_wp2_with fail
 go_loopw [7, 15] (fun av i wr => ∃ (k : Nat) (all : Value), k ≤ L ∧ i = .int .i64 k ∧ all = av ∧ Ru w wr (runQ s (l.take k)).1 all (runQ s (l.take k)).2 ∧ okTo s l k ∧ tyS (runQ s (l.take k)).1 ∧ (runQ s (l.take k)).2.length ≤ 64 * k) (fun _ i _ => L - (intOf i).toNat)
 case atStart => exact ⟨0, _, Nat.zero_le _, rfl, rfl, HM0.out, fun j hj => by omega, HTy.out, Nat.zero_le _⟩
 case round =>
  obtain ⟨k, all, hk, rfl, rfl, hR, hok, hty, hln⟩ := hrel
  have HR := hid hR
  have HOk := hid hok
  have HTk := hid hty
  clear hok hty
  by_cases hlt : k < L
  · obtain ⟨x, hx⟩ := Ev.get_lt HL.out hlt
    have HX := hid hx
    have HXb := hid (HBd.out x (List.mem_of_getElem? hx))
    obtain ⟨b, o, rfl, hb, c0, c1⟩ := row_in (HT.out.below hR.old) hx
    have hk1 : (k : Int) < (L : Int) := by omega
    have hk0 : (0 : Int) ≤ (k : Int) := by omega
    have HS := hid (run_take (s := s) hx)
    have HE : Hid (errI (runQ s (l.take k)).1 x = (stepR (runQ s (l.take k)).1 x.1 x.2).2.2) := hid rfl
    have HOn : Hid (errI (runQ s (l.take k)).1 x = 0 → okTo s l (k + 1)) := hid (okTo_step HOk.out hx)
    have HEk : Hid (errI (runQ s (l.take k)).1 x ≠ 0 → ∃ k' x', l[k']? = some x' ∧ okTo s l k' ∧ errI (runQ s (l.take k')).1 x' ≠ 0 ∧ errI (runQ s (l.take k')).1 x' = (stepR (runQ s (l.take k)).1 x.1 x.2).2.2) := hid (fun h => ⟨k, x, hx, HOk.out, h, rfl⟩)
    clear hR hx
    generalize runQ s (l.take k) = q at HR HTk HS HE HOn HEk hln
    obtain ⟨S, ev⟩ := q
    have HSA := fun W (ht : Tab W) => step_all S x.1 x.2 W ht HTk.out HXb.out.1 HXb.out.2
    go_upto_region 5 with fail
    have HR1 := hid (HR.out.below (Ev.bal (Ev.br wr) (.cells #[.int .u8 x.1, .int .u8 x.2] 41)))
    have HI1 := hid (At.new wr #[.int .u8 x.1, .int .u8 x.2] 41)
    generalize World.alloc wr _ = w1 at HR1 HI1 ⊢
    generalize wr.heap.size = I at HI1 ⊢
    obtain ⟨i0, i1⟩ := HI1.out.two
    have HSt := hid (HSA w1 (HTb.out.below HTb.out.lt (HR1.out.old)))
    clear HSA HR c0 c1
    go_upto_region 6 with (first
     | (refine wpList_load_at rfl 35 _ rfl w.heap.size 0 rfl 35 _ (stC S) (0, 0) _ HR1.out.st Tryz.underlying35 rfl (by kernel_rfl) (stC_self S) ?_)
     | (go_at_call 13; ((refine HSt.out.mono ?_); rintro e w2 ⟨v2, rfl, hv, g2, hl, hp, hn, ho⟩; have HV2 := hid hv; have HL2 := hid hl; have HN2 := hid hn; have HO2 := hid ho; have HR2 := hid (HR1.out.below g2); clear hv hl hp hn ho g2))
     | (refine wpList_store_at rfl 35 _ _ rfl w2.heap.size 0 (stC (stepR S x.1 x.2).1) rfl rfl 35 _ (At.new w2 _ _) (by kernel_rfl) (by show 60 ≤ 60; decide) rfl ?_))
    generalize hW : World.setRow _ _ _ = w3
    have HB3 : Hid (Below w2.heap.size w2 w3) := hid (by rw [← hW]; exact below_row (Ev.bal (Ev.br w2) _) (Nat.le_refl _) _)
    have HR3 := hid (HR2.out.below HB3.out)
    have HV3 := hid (HV2.out.below HB3.out)
    have HN3 : Hid (At w3 w2.heap.size (stC (stepR S x.1 x.2).1).toArray 35) := hid (by rw [← hW]; exact at_row (At.new w2 _ _) _)
    have hw1 : w.heap.size < w1.heap.size := HR1.out.st.lt
    have HO3 : Hid (∀ k, v2.ownBlock = some k → k ≠ w.heap.size) := hid (fun k e => Nat.ne_of_gt (Nat.lt_of_lt_of_le hw1 (HO2.out k e)))
    clear hW HB3 HV2 HR2 HI1 HSt HO2 HR1 i0 i1 hw1
    generalize w2.heap.size = N at HN3 ⊢
    generalize hr : stepR S x.1 x.2 = r at HL2 HN2 HN3 HV3 HE HEk ⊢
    obtain ⟨sn, kn, er⟩ := r
    dsimp only at HL2 HN2 HN3 HV3 HE HEk ⊢
    by_cases he : er = 0
    · subst he
      have HQ : Hid (runQ s (l.take (k + 1)) = (sn, ev ++ kn) ∧ tyS sn) := hid (by
       obtain ⟨a1, a2, a3, a4, a5⟩ := stepR_ok (s := S) (a := x.1) (b := x.2) (by rw [hr])
       rw [hr] at a5
       have e1 : sn = (stepP S x.1 x.2).1 := congrArg (fun z => z.1) a5
       have e2 : kn = (stepP S x.1 x.2).2 := congrArg (fun z => z.2.1) a5
       exact ⟨by rw [HS.out, e1, e2]; rfl, by rw [e1]; exact step_ty (right_ms a1 HTk.out) _ _⟩)
      have HOk1 := hid (HOn.out (by rw [HE.out]))
      clear hr HE HOn HEk HS HN2
      have hle : ev.length ≤ 1000000 := by have := hln; omega
      have hlk : kn.length ≤ 1000000 := Nat.le_trans HL2.out (by decide)
      go_upto_region 9 with (first
       | (refine wpList_load_at rfl 35 _ rfl N 0 rfl 35 _ (stC sn) (0, 0) _ HN3.out Tryz.underlying35 rfl (by kernel_rfl) (stC_self sn) ?_)
       | (refine wpList_store_at rfl 35 _ _ rfl w.heap.size 0 (stC sn) rfl rfl 35 _ HR3.out.st (by kernel_rfl) (by show 60 ≤ 60; decide) rfl ?_))
      generalize hW : World.setRow _ _ _ = w4
      have HR4 : Hid (Ru w w4 sn all ev) := hid (by rw [← hW]; exact HR3.out.put sn)
      have HV4 : Hid (Evs w4 v2 kn) := hid (by rw [← hW]; exact evs_row HV3.out HO3.out _)
      clear hW HR3 HV3 HN3 HO3
      go_wp2_with (at_builtin; refine app_evs _ rfl (.tmp 31) (.tmp 32) rfl w.heap.size _ ev rfl HR4.out.own v2 kn HV4.out rfl hle hlk HR4.out.old.size ?_; intro v' w5 ho hg; have HR5 := hid (HR4.out.app ho hg); clear ho hg)
      go_roundw
      case rel => exact ⟨k + 1, _, by omega, by go_num, rfl, by rw [HQ.out.1]; exact HR5.out, HOk1.out, by rw [HQ.out.1]; exact HQ.out.2, by rw [HQ.out.1, List.length_append]; have := HL2.out; have := hln; omega⟩
      case measure => simp [intOf]; omega
    · have hne : (er == 0) = false := by simp [he]
      clear hr HOn HS HV3 HO3
      go_wp2_with (refine wpList_store_at rfl 35 _ _ rfl (w.heap.size + 1) 0 (stC zeroS) rfl rfl 35 _ HR3.out.res (by kernel_rfl) (by show 60 ≤ 60; decide) rfl ?_)
      have HRr := hid (at_row HR3.out.res (stC zeroS).toArray)
      have HBr := hid (below_row HR3.out.old (show w.heap.size ≤ w.heap.size + 1 by omega) (stC zeroS).toArray)
      refine bodyPost_ret (results_cell_tmps rfl _ _ (w.heap.size + 1) 35 (stC zeroS).toArray (0, 0) _ rfl HRr.out Tryz.underlying35 rfl (by kernel_rfl)) rfl ?_
      obtain ⟨k', x', h1, h2, h3, h4⟩ := HEk.out (by rw [HE.out]; exact he)
      exact ⟨HBr.out, .inr ⟨k', x', h1, h2, h3, by rw [h4]; rfl⟩⟩
  · have hk' : k = L := by omega
    subst hk'
    have htk : l.take k = l := List.take_of_length_le (by have := HL.out; omega)
    rw [htk] at HR HTk hln
    clear hR
    generalize hq : runQ s l = q at HR HTk hln
    obtain ⟨S, ev⟩ := q
    go_wp2_with (first
     | (refine wpList_load_at rfl 35 _ rfl w.heap.size 0 rfl 35 _ (stC S) (0, 0) _ HR.out.st Tryz.underlying35 rfl (by kernel_rfl) (stC_self S) ?_)
     | (refine wpList_store_at rfl 35 _ _ rfl (w.heap.size + 1) 0 (stC S) rfl rfl 35 _ HR.out.res (by kernel_rfl) (by show 60 ≤ 60; decide) rfl ?_))
    have HRr := hid (at_row HR.out.res (stC S).toArray)
    have HBr := hid (below_row HR.out.old (show w.heap.size ≤ w.heap.size + 1 by omega) (stC S).toArray)
    have HOr := hid (own_row HR.out.own (at_not_row HR.out.res HR.out.own (by decide)) (stC S).toArray)
    refine bodyPost_ret (results_cell_tmps rfl _ _ (w.heap.size + 1) 35 (stC S).toArray (0, 0) _ rfl HRr.out Tryz.underlying35 rfl (by kernel_rfl)) rfl ?_
    exact ⟨HBr.out, .inl ⟨all, rfl, by rw [HL.out]; exact HOk.out, HOr.out, by rw [HL.out]; exact hln⟩⟩

end Go.Proofs.YtigjflacinlafaaGreatDoor.Gm

namespace Go.Proofs.YtigjflacinlafaaGreatDoor.Gm
open Go.RowKit Go.Proofs.YtigjflacinlafaaGreatDoor.Fx Go.Proofs.YtigjflacinlafaaGreatDoor.Tg Go.Proofs.YtigjflacinlafaaGreatDoor.Dc
open Go.Proofs.YtigjflacinlafaaGreatDoor.Ev (Ev Ky addR pageI At ecs Pg Evs)
open Go.Proofs.YtigjflacinlafaaGreatDoor.Sh (In32 vec box insideB touchB slI mvP mvV wallI)
set_option linter.unusedVariables false

theorem begin_right (seed : Int) : rightS (beginS seed) = true := by
 have : rightS (beginS seed) = rightS (beginS 0) := rfl
 rw [this]
 decide +kernel
theorem begin_ty {seed : Int} (h : 0 ≤ seed ∧ seed < 4294967296) : tyS (beginS seed) := ⟨h, fresh_ty.1, fresh_ty.2, zero_ok.1.ty, zero_ok.1.ty, zero_ok.1.ty, zero_ok.1.ty, zero_ok.1.ty, zero_ok.1.ty⟩

/-- the example's step. -/
theorem ex_step : (stepP (beginS 7) 4 4).1.fr = 1 ∧ -2097152 < (stepP (beginS 7) 4 4).1.p0.ax ∧ (stepP (beginS 7) 4 4).1.p1.ax < 2097152 ∧ (stepP (beginS 7) 4 4).2.map (fun x => x.key.k) = [8, 8] := by decide +kernel
theorem st_cell {w : World} {b : Nat} {s : St} {T : TypeId} (h : At w b (stC s).toArray T) (j : Nat) : w.cell? ⟨b, j, none⟩ = (stC s)[j]? := by
 rw [cell_of_row w b j _ _ _ h]; simp

set_option maxRecDepth 100000 in
set_option maxHeartbeats 2000000 in
theorem awake_c (w : World) (htab : Tab w) : Calls Tryz.prog 5 #[] w fun e w' => e = .returned (.bool true) ∧ Below w.heap.size w w' := by
 have HSt := hid (fun W (g : Below w.heap.size w W) => step_c (beginS 7) 4 4 W (htab.below htab.lt g) (begin_ty ⟨by decide, by decide⟩) (begin_right 7) ⟨by decide, by decide⟩ ⟨by decide, by decide⟩ (by decide))
 obtain ⟨e1, e2, e3, e4⟩ := ex_step
 generalize hq : stepP (beginS 7) 4 4 = q at HSt e1 e2 e3 e4
 obtain ⟨S, l⟩ := q
 dsimp only at HSt e1 e2 e3 e4
 obtain ⟨x, y, rfl, hk⟩ : ∃ x y, l = [x, y] ∧ x.key.k = 8 := by
  match l, e4 with
  | [x, y], e4 => exact ⟨x, y, rfl, by injection e4⟩
 have E := hid (And.intro e1 (And.intro e2 (And.intro e3 hk)))
 clear e1 e2 e3 e4 hk hq
 go_enter Tryz.func5, Tryz.ntmps5
 go_upto_region 2 with (first
  | (go_at_call 7; ((with_reducible refine (start_c _ _).mono ?_); rintro e w1 ⟨rfl, g1⟩; have HB1 := hid g1))
  | (go_at_call 13; ((refine (HSt.out _ HB1.out).mono ?_); rintro e w2 ⟨v, rfl, hv, g2, _, _⟩; have HV2 := hid hv; have HB2 := hid (Ev.bt HB1.out g2); clear hv g2))
  | (refine wpList_store_at rfl 35 _ _ rfl w2.heap.size 0 (stC S) rfl rfl 35 _ (At.new w2 _ _) (by kernel_rfl) (by show 60 ≤ 60; decide) rfl ?_))
 generalize hW : World.setRow _ _ _ = w3
 have HB3 : Hid (Below w2.heap.size w2 w3) := hid (by rw [← hW]; exact below_row (Ev.bal (Ev.br w2) _) (Nat.le_refl _) _)
 have HV3 := HV2.out.below HB3.out
 have HN3 : At w3 w2.heap.size (stC S).toArray 35 := by rw [← hW]; exact at_row (At.new w2 _ _) _
 have HBw := hid (Ev.bt HB2.out HB3.out)
 clear hW HB3 HV2 HSt
 obtain ⟨ao, L, cap, rfl, hL, _, _, ht⟩ := HV3
 obtain rfl : L = 2 := hL.symm
 obtain ⟨b, o, rfl, hb, _, _, c2, _⟩ := ht.ev (j := 0) (x := x) rfl
 simp only [Nat.zero_mul, Nat.add_zero] at c2
 have d0 : w3.cell? ⟨w2.heap.size, 0, none⟩ = some (.int .i64 S.fr) := st_cell HN3 0
 have d4 : w3.cell? ⟨w2.heap.size, 4, none⟩ = some (.int .i32 S.p0.ax) := st_cell HN3 4
 have d14 : w3.cell? ⟨w2.heap.size, 14, none⟩ = some (.int .i32 S.p1.ax) := st_cell HN3 14
 clear HN3 ht hL
 generalize w2.heap.size = N at d0 d4 d14 ⊢
 obtain ⟨e1, e2, e3, e4⟩ := E.out
 rw [e1] at d0
 rw [e4] at c2
 go_wp2_with fail
 go_ret
 exact ⟨rfl, HBw.out⟩

end Go.Proofs.YtigjflacinlafaaGreatDoor.Gm

namespace Go.Proofs.YtigjflacinlafaaGreatDoor.Gm
open Go.RowKit
set_option linter.unusedVariables false

theorem wpList_load_atg {P : Program} {ops : Array Oper} {rest : List Oper} {o : Oper} {a : Act} {w : World} {Q : Exit → Act → World → Prop} (hgd : Region.wanted o (yielded ops a.tmps) = true) (ty : TypeId) (x : Operand) (ho : o.op = .load ty x)
 (g k : Nat) (hx : a.eval x = .pointer (some ⟨g, k, none⟩)) (t : TypeId) (cs : Array Value) (vs : List Value) (fr : Nat × Nat) (d : TypeDesc) (hg : w.heap[g]? = some (.cells cs t fr))
 (hu : P.underlying ty = some d) (hd : (match d with | .struct _ | .array _ _ => true | _ => false) = true) (hi : (P.info? ty).map (·.size) = some vs.length) (hv : ∀ j v, vs[j]? = some v → cs[k + j]? = some v)
 (h : wpList P ops Q rest (a.put o.dst (.agg vs.toArray)) w) : wpList P ops Q (o :: rest) a w := by
 refine wpList_step fun K hK => ?_
 rw [if_pos hgd]
 exact wp_load_at ty x ho g k hx t cs vs fr d hg hu hd hi hv (hK _ _ h)

end Go.Proofs.YtigjflacinlafaaGreatDoor.Gm

namespace Go.Proofs.YtigjflacinlafaaGreatDoor.Gm
open Go.RowKit Go.Proofs.YtigjflacinlafaaGreatDoor.Fx Go.Proofs.YtigjflacinlafaaGreatDoor.Tg Go.Proofs.YtigjflacinlafaaGreatDoor.Dc
open Go.Proofs.YtigjflacinlafaaGreatDoor.Ev (Ev Ky addR pageI At ecs Pg Evs flat)
set_option linter.unusedVariables false

abbrev RR := St × List Ev × Int
/-- one step more, unless there was an error. -/
def accE (q : RR) (x : Int × Int) : RR :=
 if q.2.2 = 0 then (if (stepR q.1 x.1 x.2).2.2 = 0 then ((stepR q.1 x.1 x.2).1, q.2.1 ++ (stepR q.1 x.1 x.2).2.1, 0) else (zeroS, [], (stepR q.1 x.1 x.2).2.2)) else q
def runE (q : RR) (l : List (Int × Int)) : RR := l.foldl accE q
def runR (s : St) (l : List (Int × Int)) : RR := runE (s, [], 0) l
theorem runE_app (q : RR) (a b : List (Int × Int)) : runE q (a ++ b) = runE (runE q a) b := List.foldl_append
theorem runE_bad {q : RR} (h : q.2.2 ≠ 0) : ∀ l : List (Int × Int), runE q l = q
 | [] => rfl
 | x :: r => by
  have : accE q x = q := by unfold accE; rw [if_neg h]
  show runE (accE q x) r = q
  rw [this]
  exact runE_bad h r
theorem runR_take {s : St} {l : List (Int × Int)} : ∀ k, k ≤ l.length → okTo s l k → runR s (l.take k) = ((runQ s (l.take k)).1, (runQ s (l.take k)).2, 0)
 | 0, _, _ => rfl
 | k + 1, hk, h => by
  have hx : l[k]? = some (l[k]'(by omega)) := List.getElem?_eq_getElem _
  have ih := runR_take k (by omega) (fun j hj => h j (by omega))
  have he := h k (by omega) _ hx
  generalize l[k]'(by omega) = x at hx he
  rw [run_take hx]
  rw [← Ev.take_snoc hx]
  unfold runR at ih ⊢
  rw [runE_app, ih]
  obtain ⟨_, _, _, _, e⟩ := stepR_ok he
  show accE ((runQ s (l.take k)).1, (runQ s (l.take k)).2, 0) x = _
  unfold accE
  rw [if_pos rfl]
  dsimp only
  rw [e]
  rfl
theorem runR_bad {s : St} {l : List (Int × Int)} {k : Nat} {x : Int × Int} (hx : l[k]? = some x) (h : okTo s l k) (he : errI (runQ s (l.take k)).1 x ≠ 0) : runR s l = (zeroS, [], errI (runQ s (l.take k)).1 x) := by
 have hk : k < l.length := (List.getElem?_eq_some_iff.1 hx).1
 have h1 := runR_take k (by omega) h
 have h2 : runR s (l.take (k + 1)) = (zeroS, [], errI (runQ s (l.take k)).1 x) := by
  rw [← Ev.take_snoc hx]
  unfold runR at h1 ⊢
  rw [runE_app, h1]
  show accE ((runQ s (l.take k)).1, (runQ s (l.take k)).2, 0) x = _
  unfold accE
  rw [if_pos rfl]
  exact if_neg he
 have h3 : l = l.take (k + 1) ++ l.drop (k + 1) := (List.take_append_drop _ _).symm
 have h4 : runR s l = runE (runR s (l.take (k + 1))) (l.drop (k + 1)) := by
  conv => lhs; rw [h3]
  exact runE_app _ _ _
 rw [h4, h2]
 exact runE_bad (q := (zeroS, [], errI (runQ s (l.take k)).1 x)) he _
/-- Run, whatever it answers. -/
theorem run_all (s : St) (v : Value) (l : List (Int × Int)) (w : World) (htab : Tab w) (hty : tyS s) (h : Ins w v l) (hb : ∀ x, x ∈ l → 0 ≤ x.1 ∧ 0 ≤ x.2) (hlen : l.length ≤ 400) :
 Calls Tryz.prog 6 #[.agg (stC s).toArray, v] w fun e w' => ∃ v', e = .returned (.tuple #[.agg (stC (runR s l).1).toArray, v', .int .i64 (runR s l).2.2]) ∧ w'.ownsRow w.heap.size 53 9 v' (runR s l).2.1.length (flat ecs (runR s l).2.1) ∧ Below w.heap.size w w' ∧ (runR s l).2.1.length ≤ 64 * l.length := by
 refine (run_c s v l w htab hty h hb hlen).mono ?_
 rintro e w' ⟨hB, ⟨v', h1, h2, h3, h4⟩ | ⟨k, x, h1, h2, h3, h4⟩⟩
 · have := runR_take l.length (Nat.le_refl _) h2
   rw [List.take_length] at this
   rw [this]
   exact ⟨v', h1, h3, hB, h4⟩
 · rw [runR_bad h1 h2 h3]
   exact ⟨_, h4, ⟨by simp [flat], .inl ⟨rfl, rfl⟩⟩, hB, by simp⟩
theorem runE_pre (S : St) (ev : List Ev) : ∀ l : List (Int × Int), runE (S, ev, 0) l = if (runE (S, [], 0) l).2.2 = 0 then ((runE (S, [], 0) l).1, ev ++ (runE (S, [], 0) l).2.1, 0) else (zeroS, [], (runE (S, [], 0) l).2.2) := by
 intro l
 induction l generalizing S ev with
 | nil => simp [runE]
 | cons x r ih =>
  show runE (accE (S, ev, 0) x) r = if (runE (accE (S, [], 0) x) r).2.2 = 0 then ((runE (accE (S, [], 0) x) r).1, ev ++ (runE (accE (S, [], 0) x) r).2.1, 0) else (zeroS, [], (runE (accE (S, [], 0) x) r).2.2)
  unfold accE
  dsimp only
  rw [if_pos rfl, if_pos rfl]
  by_cases h : (stepR S x.1 x.2).2.2 = 0
  · rw [if_pos h, if_pos h, ih, ih (stepR S x.1 x.2).1 ([] ++ (stepR S x.1 x.2).2.1)]
    by_cases h2 : (runE ((stepR S x.1 x.2).1, [], 0) r).2.2 = 0
    · rw [if_pos h2]; simp [h2]
    · rw [if_neg h2]; simp [h2]
  · rw [if_neg h, if_neg h, runE_bad (q := (zeroS, [], (stepR S x.1 x.2).2.2)) h]
    exact (if_neg h).symm
/-- Run in parts it is run at once. -/
theorem run_parts (s : St) (l : List (Int × Int)) (k : Nat) :
 ((runR s l).2.2 ≠ 0 → (runR s (l.take k)).2.2 ≠ 0 ∨ (runR (runR s (l.take k)).1 (l.drop k)).2.2 ≠ 0) ∧
 ((runR s l).2.2 = 0 → (runR s (l.take k)).2.2 = 0 ∧ (runR (runR s (l.take k)).1 (l.drop k)).2.2 = 0 ∧ (runR (runR s (l.take k)).1 (l.drop k)).1 = (runR s l).1 ∧ (runR s (l.take k)).2.1 ++ (runR (runR s (l.take k)).1 (l.drop k)).2.1 = (runR s l).2.1) := by
 have h0 : runR s l = runE (runR s (l.take k)) (l.drop k) := by
  conv => lhs; rw [← List.take_append_drop k l]
  exact runE_app _ _ _
 rw [h0]
 generalize runR s (l.take k) = q
 obtain ⟨S, ev, e⟩ := q
 by_cases he : e = 0
 · subst he
   rw [runE_pre]
   show _ ∧ _
   unfold runR
   dsimp only
   by_cases h : (runE (S, [], 0) (l.drop k)).2.2 = 0
   · rw [if_pos h]
     exact ⟨fun h => absurd rfl h, fun _ => ⟨rfl, h, rfl, rfl⟩⟩
   · rw [if_neg h]
     exact ⟨fun _ => .inr h, fun h2 => absurd h2 h⟩
 · rw [runE_bad he]
   exact ⟨fun _ => .inl he, fun h => absurd h he⟩
theorem ins_take {w : World} {ao : Option Addr} {L cap : Nat} {l : List (Int × Int)} (h : Ins w (.slice ao L cap) l) (k : Nat) (hk : k ≤ L) : Ins w (.slice ao k cap) (l.take k) := by
 obtain ⟨a, L', c', e, h1, h2, h3, h4⟩ := h
 cases e
 refine ⟨ao, k, cap, rfl, by rw [List.length_take]; omega, by omega, h3, fun hp => ?_⟩
 have hp2 : 0 < l.length := by rw [List.length_take] at hp; omega
 obtain ⟨b, o, e, hb, hc⟩ := h4 hp2
 refine ⟨b, o, e, hb, fun j hj i v hv => ?_⟩
 have hj2 : j < l.length := by rw [List.length_take] at hj; omega
 rw [List.getElem_take] at hv
 exact hc j hj2 i v hv

end Go.Proofs.YtigjflacinlafaaGreatDoor.Gm
