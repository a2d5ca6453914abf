/- What Diff returns (layer 11, event). -/
import Derived.Test.YtfkbkfaiplhehaaEvDm
import Derived.Test.YtfkbkfaiplhehaaEvEq
namespace Go.Proofs.Ytfkbkfaiplhehaa.Ev
open Go.RowKit Go.Shelf
set_option linter.unusedVariables false
attribute [local go_sem] Oper.semAt_some

/-- what is gone, fresh and turned. -/
def goneL (was now : List Ev) : List Ky := (keys was).filter fun k => (getK now k).isNone
def freshL (was now : List Ev) : List Ev := now.filter fun x => (getK was x.key).isNone
def turnedL (was now : List Ev) : List Ev := now.filter fun x => (getK was x.key).isSome && decide (getK was x.key ≠ some x)

theorem keeps_row {W W' : World} {B n k : Nat} {t : TypeId} {v : Value} {xs : List Value} (h : W.ownsRow B t k v n xs) (hg : W.grownBy W' v.ownBlock) : KeepsOthers W W' :=
  KeepsOthers.of_grownBy hg (fun j o e ho => by
    obtain ⟨cur, h1⟩ := own_block h e
    rw [h1] at ho
    cases ho
    rfl)
theorem results_diff {fn : Func} (h : fn.results = #[.cell 4 38, .tmp 5]) (tmps : Array Value) (W : World) (b : Nat) (hp : tmps[4]?.getD undef = .pointer (some ⟨b, 0, none⟩)) (g f t : Value) (hA : At W b #[g, f, t] 38) :
    (results fn tmps).run Try.prog W = .ok (.tuple #[.agg #[g, f, t], tmps.getD 5 undef]) W := by
  obtain ⟨c0, c1, c2⟩ := hA.three
  simp [results, h, hp, go_sem, c0, c1, c2]
theorem At.put3 {w : World} {b : Nat} {x0 x1 x2 : Value} {T : TypeId} (h : At w b #[x0, x1, x2] T) (v0 v1 v2 : Value) : At (((w.setCell ⟨b, 0, none⟩ v0).setCell ⟨b, 1, none⟩ v1).setCell ⟨b, 2, none⟩ v2) b #[v0, v1, v2] T :=
  heap_setCell_same _ b 2 _ _ v2 (heap_setCell_same _ b 1 _ _ v1 (heap_setCell_same w b 0 _ _ v0 h))
theorem bset3 {w W : World} (h : Below w.heap.size w W) {c : Nat} (hc : w.heap.size ≤ c) (v0 v1 v2 : Value) : Below w.heap.size w (((W.setCell ⟨c, 0, none⟩ v0).setCell ⟨c, 1, none⟩ v1).setCell ⟨c, 2, none⟩ v2) :=
  ((h.setCell (p := ⟨c, 0, none⟩) hc _).setCell (p := ⟨c, 1, none⟩) hc _).setCell (p := ⟨c, 2, none⟩) hc _

theorem ord_parts {l : List Ev} (h : ordB l = true) : l.all evB = true ∧ up (keys l) ∧ l.length ≤ 64 := by
  unfold ordB at h
  simp only [Bool.and_eq_true, decide_eq_true_eq] at h
  exact ⟨h.1.1, h.1.2, h.2⟩

set_option maxRecDepth 100000 in
set_option maxHeartbeats 1000000 in
theorem diff_no (u v : Value) (was now : List Ev) (w : World) (hu : Evs w u was) (hv : Evs w v now) (h : (ordB was && ordB now) = false) :
    Calls Try.prog 19 #[u, v] w fun e w' => e = .returned (.tuple #[.agg #[.slice none 0 0, .slice none 0 0, .slice none 0 0], .int .i64 1]) ∧ Below w.heap.size w w' := by
  have hb0 := bal (bal (br w) (.cells #[v] 22)) (.cells #[.slice none 0 0, .slice none 0 0, .slice none 0 0] 38)
  have HB0 := hid hb0
  have HV := hid ((At.new w #[v] 22).more (.cells #[.slice none 0 0, .slice none 0 0, .slice none 0 0] 38))
  have HRs := hid (At.newAt (w.alloc (.cells #[v] 22)) #[.slice none 0 0, .slice none 0 0, .slice none 0 0] 38 (n := w.heap.size + 1) (by simp))
  have HO1 := hid (fun W (g : Below w.heap.size w W) => ordered_c u was W (hu.below g))
  have HO2 := hid (fun W (g : Below w.heap.size w W) => ordered_c v now W (hv.below g))
  obtain ⟨ao, L, cap, rfl, hL, hc, hm, ht⟩ := hu
  obtain ⟨ao2, L2, cap2, rfl, hL2, hc2, hm2, ht2⟩ := hv
  clear hL ht hL2 ht2 hb0
  cases h1 : ordB was
  case false =>
    rw [h1] at HO1
    go_enter Try.func19, Try.ntmps19
    go_wp2_with (go_at_call 16; ((with_reducible refine (HO1.out _ HB0.out).mono ?_); rintro e w1 ⟨rfl, g1⟩; have aV := HV.out.below g1; have a0 := aV.one; have aR := HRs.out.below g1; obtain ⟨r0, r1, r2⟩ := aR.three; have f0 := aR.frozen 0; have f1 := aR.frozen 1; have f2 := aR.frozen 2; have HB1 := hid (bt HB0.out g1); clear g1))
    refine bodyPost_ret (results_diff rfl _ _ (w.heap.size + 1) rfl _ _ _ (aR.put3 _ _ _)) rfl ?_
    exact ⟨rfl, bset3 HB1.out (by omega) _ _ _⟩
  case true =>
    rw [h1] at HO1
    rw [show ordB now = false by simpa [h1] using h] at HO2
    clear h
    go_enter Try.func19, Try.ntmps19
    go_wp2_with (first
      | (go_at_call 16; ((with_reducible refine (HO1.out _ HB0.out).mono ?_); rintro e w1 ⟨rfl, g1⟩; have aV := HV.out.below g1; have a0 := aV.one; have aR := HRs.out.below g1; obtain ⟨r0, r1, r2⟩ := aR.three; have f0 := aR.frozen 0; have f1 := aR.frozen 1; have f2 := aR.frozen 2; have HB1 := hid (bt HB0.out g1); clear g1))
      | (go_at_call 16; ((with_reducible refine (HO2.out _ HB1.out).mono ?_); rintro e w2 ⟨rfl, g2⟩; have aR2 := aR.below g2; obtain ⟨s0, s1, s2⟩ := aR2.three; have k0 := aR2.frozen 0; have k1 := aR2.frozen 1; have k2 := aR2.frozen 2; have HB2 := hid (bt HB1.out g2); clear g2)))
    refine bodyPost_ret (results_diff rfl _ _ (w.heap.size + 1) rfl _ _ _ (aR2.put3 _ _ _)) rfl ?_
    exact ⟨rfl, bset3 HB2.out (by omega) _ _ _⟩

end Go.Proofs.Ytfkbkfaiplhehaa.Ev
