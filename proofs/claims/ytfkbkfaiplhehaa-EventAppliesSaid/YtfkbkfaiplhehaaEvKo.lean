/- Keys that are gone through by a function: do they rise (layer 11, event). -/
import Derived.Test.YtfkbkfaiplhehaaEvIt
import Derived.Test.YtfkbkfaiplhehaaEvA
import Derived.Test.YtfkbkfaiplhehaaEvB
namespace Go.Proofs.Ytfkbkfaiplhehaa.Ev
open Go.RowKit Go.Shelf
set_option linter.unusedVariables false
attribute [local go_sem] Oper.semAt_some

theorem Gr.grownBy {w w' : World} (h : Gr w w') : w.grownBy w' none := by
  obtain ⟨q, os, rfl⟩ := h
  exact ⟨rfl, rfl, rfl, by simp, fun k hk _ => Go.Sort.heap_grow_old _ _ hk⟩
theorem Gr.from {w w' : World} (h : Gr w w') (B : Nat) : KeepsFrom B w w' := KeepsFrom.of_grownBy h.grownBy (fun j e => by cases e)
theorem Gr.at {w w' : World} (h : Gr w w') {b : Nat} {cs : Array Value} {T : TypeId} (k : At w b cs T) : At w' b cs T := k.below h.below
theorem At.kept {W W' : World} {row : Option Nat} {B : Nat} {cs : Array Value} {t : TypeId} (h : At W B cs t) (hg : W.grownBy W' row) (hne : some B ≠ row) : At W' B cs t := (hg.block B h.lt hne).trans h
theorem at_own {β : Type} (B : Nat) (t : TypeId) (f : β → Array Value) : Own (fun s W => At W B (f s) t) := fun s X Y row hs hg hrow =>
  hs.kept hg (fun e' => by obtain ⟨o, ho, hc⟩ := hrow B e'.symm; rw [show X.heap[B]? = _ from hs] at ho; cases ho; cases hc)
theorem At.far {w : World} {b c j : Nat} {cs : Array Value} {T : TypeId} (h : At w b cs T) (hn : b ≠ c) (v : Value) : At (w.setCell ⟨c, j, none⟩ v) b cs T := by
  unfold At at h ⊢
  rw [Below.heap_setCell _ _ _ _ hn]
  exact h
/-- an answer that lies in a block. -/
theorem At.put1 {w : World} {b : Nat} {x0 : Value} {T : TypeId} (h : At w b #[x0] T) (v : Value) : At (w.setCell ⟨b, 0, none⟩ v) b #[v] T := heap_setCell_same w b 0 _ _ v h
theorem At.put4 {w : World} {b : Nat} {x0 x1 x2 x3 : Value} {T : TypeId} (h : At w b #[x0, x1, x2, x3] T) (v0 v1 v2 v3 : Value) : At ((((w.setCell ⟨b, 0, none⟩ v0).setCell ⟨b, 1, none⟩ v1).setCell ⟨b, 2, none⟩ v2).setCell ⟨b, 3, none⟩ v3) b #[v0, v1, v2, v3] T :=
  heap_setCell_same _ b 3 _ _ v3 (heap_setCell_same _ b 2 _ _ v2 (heap_setCell_same _ b 1 _ _ v1 (heap_setCell_same w b 0 _ _ v0 h)))

def zeroK : Ky := ⟨0, 0, 0, 0⟩
def lastK (l : List Ky) : Ky := l.getLast?.getD zeroK
theorem zero_lt {k : Ky} (h : keyB k = true) : ltK zeroK k := by
  unfold keyB inB at h
  simp at h
  unfold ltK zeroK
  simp
  omega
theorem last_snoc (l : List Ky) (x : Ky) : lastK (l ++ [x]) = x := by simp [lastK]
theorem ris_snoc {l : List Ky} {x : Ky} (h : risB l = true) (hx : keyB x = true) (hl : ltK (lastK l) x) : risB (l ++ [x]) = true := by
  unfold risB at h ⊢
  simp at h
  rw [List.all_append, decide_eq_true (up_snoc h.2 x fun y hy => by simpa [lastK, hy] using hl)]
  simp [hx]
  exact h.1
theorem ris_bad1 {l ks : List Ky} {x : Ky} (hp : l ++ [x] <+: ks) (hx : keyB x = false) : risB ks = false := by
  obtain ⟨t, rfl⟩ := hp
  unfold risB
  simp [hx]
theorem ris_bad2 {l ks : List Ky} {x : Ky} (hp : l ++ [x] <+: ks) (hx : keyB x = true) (hl : ¬ ltK (lastK l) x) : risB ks = false := by
  obtain ⟨t, rfl⟩ := hp
  unfold risB
  rw [decide_eq_false]
  · simp
  · intro hu
    unfold up at hu
    rw [List.pairwise_append] at hu
    cases h : l.getLast? with
    | none => exact hl (by simpa [lastK, h] using zero_lt hx)
    | some y => exact hl (by simpa [lastK, h] using up_last hu.1 h)

set_option maxRecDepth 100000 in
set_option maxHeartbeats 1000000 in
theorem kordered_c (fv : Value) (ks : List Ky) (N : Nat) (w : World) (hs : SeqV N w fv ks) (hN : N ≤ w.heap.size) :
    Calls Try.prog 34 #[fv] w fun e w' => e = .returned (.bool (risB ks)) ∧ Below w.heap.size w w' := by
  refine (callsIn_wide (n := 6)).1 ?_
  obtain ⟨gf, lb, rfl, eg, hseq⟩ := hs
  have h1 : 1 ≤ 6 := by omega
  have hw1 : Fence.wide.fn 37 := trivial
  have hw2 : Fence.wide.fn 14 := trivial
  have aR := (At.new w #[.bool false] 4).more (.cells #[.int .i64 0, .int .i64 0, .int .i64 0, .int .i64 0] 24)
  have aL := At.new (w.alloc (.cells #[.bool false] 4)) #[.int .i64 0, .int .i64 0, .int .i64 0, .int .i64 0] 24
  rw [World.size_alloc] at aL
  have hB0 := bal (bal (br w) (.cells #[.bool false] 4)) (.cells #[.int .i64 0, .int .i64 0, .int .i64 0, .int .i64 0] 24)
  refine callsIn_of_wp_marks Try.func34 rfl trivial ?_ rfl
  simp only [Try.ntmps34, List.size_toArray, List.length_cons, List.length_nil, Nat.reduceAdd, Nat.reduceSub, Array.replicate_succ, Array.replicate_zero, List.push_toArray, List.append_toArray, List.nil_append, List.cons_append]
  gi_wp2
  refine wpIn_rangeFunc_ownH rfl h1 (gf := gf) (lb := lb) rfl trivial eg hseq belowK_t (belowK_b (by simp; omega)) hB0 (fun _ => rfl)
    (fun pre W => ((risB pre = true ∧ At W w.heap.size #[.bool false] 4) ∧ At W (w.heap.size + 1) #[.int .i64 (lastK pre).f, .int .i64 (lastK pre).e, .int .i64 (lastK pre).k, .int .i64 (lastK pre).o] 24) ∧ Below w.heap.size w W)
    (fun c pre W => ((c = .ret ∧ (∀ ks, pre <+: ks → risB ks = false)) ∧ At W w.heap.size #[.bool false] 4) ∧ Below w.heap.size w W)
    (OwnFrom.and (OwnFrom.and (OwnFrom.and (ownFrom_pure _ _) (Own.from (at_own _ _ _) _)) (Own.from (at_own _ _ _) _)) (ownFrom_below (Nat.le_refl _) (by simp; omega)))
    (fun c => OwnFrom.and (OwnFrom.and (ownFrom_pure _ _) (Own.from (at_own _ _ _) _)) (ownFrom_below (Nat.le_refl _) (by simp; omega)))
    ⟨⟨⟨rfl, aR⟩, aL⟩, hB0⟩
    (fun x a' W => ∃ Bx, w.heap.size + 1 < Bx ∧ At W Bx #[.int .i64 x.f, .int .i64 x.e, .int .i64 x.k, .int .i64 x.o] 24 ∧ a' = { tmps := #[.func (.func gf) #[] lb, undef, .pointer (some ⟨w.heap.size, 0, none⟩), .pointer (some ⟨w.heap.size + 1, 0, none⟩), .pointer (some ⟨Bx, 0, none⟩), .func (.func gf) #[] lb, kv x, undef, undef, undef, undef, undef, undef, undef, undef, undef, undef], defers := [] })
    ?hAx ?assign ?body ?done ?stop
  case hAx =>
    intro x a' s X Y row hs hg hr
    obtain ⟨Bx, h1, h2, h3⟩ := hs
    exact ⟨Bx, h1, Own.from (at_own (β := Unit) Bx _ (fun _ => _)) _ () X Y row h2 hg hr, h3⟩
  case assign =>
    rintro l pre x W K ⟨⟨⟨hi1, hi2⟩, hi3⟩, hB⟩ hK
    gi_wp2
    exact hK _ _ ((KeepsOthers.alloc _ _).from _) ((Below.refl _ W).alloc (Nat.le_trans hN hB.size) _) ⟨⟨⟨hi1, hi2.more _⟩, hi3.more _⟩, bal hB _⟩ ⟨W.heap.size, hi3.lt, At.new W _ _, rfl⟩
  case body =>
    rintro l pre x a' W hl ⟨r, hr⟩ ⟨⟨⟨hi1, hi2⟩, hi3⟩, hB⟩ ⟨Bx, hBx, bX, rfl⟩ hlt
    obtain ⟨x0, x1, x2, x3⟩ := bX.four
    have HX := hid bX
    have HR := hid hi2
    have HLa := hid hi3
    have HB := hid hB
    clear bX hi2 hi3 hB
    cases hE : keyB x
    case false =>
      have HBad := hid (fun ks (h : pre ++ [x] <+: ks) => ris_bad1 h hE)
      gi_wp2_with (gi_at_call 37; refine (CallsIn.inRound l (callsIn_wide.2 (iskey_c x _))).mono ?_; rintro e w1 ⟨rfl, g1⟩; rw [hE]; have aR1 := g1.at HR.out; have cR1 := aR1.one; have fR1 := aR1.frozen 0)
      exact ⟨KeepsFrom.trans (g1.from _) ((KeepsOthers.setCell _ _ _).from _), ⟨⟨rfl, HBad.out⟩, aR1.put1 _⟩, (bt HB.out g1.below).setCell (p := ⟨w.heap.size, 0, none⟩) (Nat.le_refl _) _⟩
    case true =>
      by_cases hlt2 : ltK (lastK pre) x
      · have HRis := hid (ris_snoc hi1 hE hlt2)
        have hd : decide (0 ≤ cmpK (lastK pre) x) = false := by simp; exact (cmpK_lt _ _).2 hlt2
        have hd' : ¬ 0 ≤ cmpK (lastK pre) x := by simpa using hd
        gi_wp2_with (first
          | (gi_at_call 37; refine (CallsIn.inRound l (callsIn_wide.2 (iskey_c x _))).mono ?_; rintro e w1 ⟨rfl, g1⟩; rw [hE]; obtain ⟨y0, y1, y2, y3⟩ := (g1.at HX.out).four; obtain ⟨z0, z1, z2, z3⟩ := (g1.at HLa.out).four)
          | (gi_at_call 14; refine (CallsIn.inRound l (callsIn_wide.2 (compare_c (lastK pre) x _))).mono ?_; rintro e w2 ⟨rfl, g2⟩; have g12 := gt g1 g2; have aR2 := g12.at HR.out; have cR2 := aR2.one; have fR2 := aR2.frozen 0; have aL2 := g12.at HLa.out; obtain ⟨t0, t1, t2, t3⟩ := aL2.four; have u0 := aL2.frozen 0; have u1 := aL2.frozen 1; have u2 := aL2.frozen 2; have u3 := aL2.frozen 3; obtain ⟨v0, v1, v2, v3⟩ := (g12.at HX.out).four))
        refine ⟨KeepsFrom.trans (g12.from _) (((((KeepsOthers.setCell _ _ _).trans (KeepsOthers.setCell _ _ _)).trans (KeepsOthers.setCell _ _ _)).trans (KeepsOthers.setCell _ _ _)).from _), ?_, ⟨⟨⟨HRis.out, (((aR2.far (by omega) _).far (by omega) _).far (by omega) _).far (by omega) _⟩, ?_⟩, ?_⟩⟩
        · exact ((((g12.below.mono (Nat.le_trans hN HB.out.size)).setCell (p := ⟨w.heap.size + 1, 0, none⟩) (by show N ≤ w.heap.size + 1; omega) _).setCell (p := ⟨w.heap.size + 1, 1, none⟩) (by show N ≤ w.heap.size + 1; omega) _).setCell (p := ⟨w.heap.size + 1, 2, none⟩) (by show N ≤ w.heap.size + 1; omega) _).setCell (p := ⟨w.heap.size + 1, 3, none⟩) (by show N ≤ w.heap.size + 1; omega) _
        · rw [last_snoc]
          exact aL2.put4 _ _ _ _
        · exact (((((bt HB.out g12.below).setCell (p := ⟨w.heap.size + 1, 0, none⟩) (by simp) _).setCell (p := ⟨w.heap.size + 1, 1, none⟩) (by simp) _).setCell (p := ⟨w.heap.size + 1, 2, none⟩) (by simp) _).setCell (p := ⟨w.heap.size + 1, 3, none⟩) (by simp) _)
      · have HBad := hid (fun ks (h : pre ++ [x] <+: ks) => ris_bad2 h hE hlt2)
        have hd : decide (0 ≤ cmpK (lastK pre) x) = true := by simp; exact (cmpK_ge _ _).2 hlt2
        have hd' : 0 ≤ cmpK (lastK pre) x := by simpa using hd
        gi_wp2_with (first
          | (gi_at_call 37; refine (CallsIn.inRound l (callsIn_wide.2 (iskey_c x _))).mono ?_; rintro e w1 ⟨rfl, g1⟩; rw [hE]; obtain ⟨y0, y1, y2, y3⟩ := (g1.at HX.out).four; obtain ⟨z0, z1, z2, z3⟩ := (g1.at HLa.out).four)
          | (gi_at_call 14; refine (CallsIn.inRound l (callsIn_wide.2 (compare_c (lastK pre) x _))).mono ?_; rintro e w2 ⟨rfl, g2⟩; have g12 := gt g1 g2; have aR2 := g12.at HR.out; have cR2 := aR2.one; have fR2 := aR2.frozen 0; have aL2 := g12.at HLa.out; obtain ⟨t0, t1, t2, t3⟩ := aL2.four; have u0 := aL2.frozen 0; have u1 := aL2.frozen 1; have u2 := aL2.frozen 2; have u3 := aL2.frozen 3; obtain ⟨v0, v1, v2, v3⟩ := (g12.at HX.out).four))
        exact ⟨KeepsFrom.trans (g12.from _) ((KeepsOthers.setCell _ _ _).from _), ⟨⟨rfl, HBad.out⟩, aR2.put1 _⟩, (bt HB.out g12.below).setCell (p := ⟨w.heap.size, 0, none⟩) (Nat.le_refl _) _⟩
  case done =>
    rintro D ys W hD rfl ⟨⟨⟨hi1, hi2⟩, hi3⟩, hB⟩ hK
    have cR := hi2.one
    have fR := hi2.frozen 0
    gi_wp2
    have hK' := (KeepsOthers.setCell W ⟨w.heap.size, 0, none⟩ (.bool true)).same D _ hK rfl
    refine ⟨by simp, .inl ⟨_, _, rfl, run_takeDeferred hK', ?_⟩⟩
    have hc5 := cell_kept (World.cell?_setCell_same' W ⟨w.heap.size, 0, none⟩ (.bool true) (by rw [cR]; rfl)) (grownBy_putObj' _ D (.deferred none)) (fun r e => by cases e; exact ⟨_, hK', rfl⟩)
    refine ⟨.bool true, ?_, by rw [hi1], (hB.setCell (p := ⟨w.heap.size, 0, none⟩) (Nat.le_refl _) _).trans (belowK_b (w := w) (Nat.le_refl _) _ D _ _ (by simp at hD; omega) hK' rfl rfl)⟩
    simp [results, Try.f34, go_sem, hc5]
  case stop =>
    rintro D c pre W hD hpre ⟨⟨⟨rfl, hbad⟩, hi2⟩, hB⟩ hK
    have cR := hi2.one
    gi_wp2
    refine ⟨by simp, .inl ⟨_, _, rfl, run_takeDeferred hK, ?_⟩⟩
    have hc5 := cell_kept cR (grownBy_putObj' _ D (.deferred none)) (fun r e => by cases e; exact ⟨_, hK, rfl⟩)
    refine ⟨.bool false, ?_, by rw [hbad ks hpre], hB.trans (belowK_b (w := w) (Nat.le_refl _) W D _ _ (by simp at hD; omega) hK rfl rfl)⟩
    simp [results, Try.f34, go_sem, hc5]

end Go.Proofs.Ytfkbkfaiplhehaa.Ev
