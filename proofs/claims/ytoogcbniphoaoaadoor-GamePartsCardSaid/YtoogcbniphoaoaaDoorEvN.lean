/- How many of some keys are those of events in order; how many events of a page are of an emitter and a kind (layer 11, event). -/
import Derived.Test.YtoogcbniphoaoaaDoorEvK
namespace Go.Proofs.YtoogcbniphoaoaaDoor.Ev
open Go.RowKit Go.Shelf
set_option linter.unusedVariables false
attribute [local go_sem] Oper.semAt_some

theorem count_snoc (p : Ky → Bool) (l : List Ky) (x : Ky) : (l ++ [x]).countP p = l.countP p + (if p x then 1 else 0) := by
  rw [List.countP_append]
  simp [List.countP_singleton]
theorem KeepsFrom.gr_set {B : Nat} {W W1 : World} (g : Gr W W1) (p : Addr) (v : Value) : KeepsFrom B W (W1.setCell p v) := KeepsFrom.trans (g.from B) ((KeepsOthers.setCell _ _ _).from B)

/-- of an emitter and a kind. -/
def sameB (a b : Int) (k : Ky) : Bool := decide (k.e = a) && decide (k.k = b)

set_option maxRecDepth 100000 in
set_option maxHeartbeats 1000000 in
theorem count_c (p : Nat) (fr : Int) (v : Value) (l : List Ev) (a b : Int) (w : World) (hP : At w p #[.int .i64 fr, v] 70) (hv : Evs w v l) (hl : l.length ≤ 4096) :
    Calls Tryd.prog 64 #[.pointer (some ⟨p, 0, none⟩), .int .i64 a, .int .i64 b] w fun e w' => e = .returned (.int .i64 ((keys l).countP (sameB a b))) ∧ Below w.heap.size w w' := by
  refine (callsIn_wide (n := 6)).1 ?_
  have h1 : 1 ≤ 6 := by omega
  have hw1 : Fence.wide.fn 76 := trivial
  have hg0 := gal (gal (gal (gr w) (.cells #[.int .i64 a] 3)) (.cells #[.int .i64 b] 3)) (.cells #[.int .i64 0] 3)
  have aA := ((At.new w #[.int .i64 a] 3).more (.cells #[.int .i64 b] 3)).more (.cells #[.int .i64 0] 3)
  have aB := (At.newAt (w.alloc (.cells #[.int .i64 a] 3)) #[.int .i64 b] 3 (n := w.heap.size + 1) (by simp)).more (.cells #[.int .i64 0] 3)
  have aC := At.newAt ((w.alloc (.cells #[.int .i64 a] 3)).alloc (.cells #[.int .i64 b] 3)) #[.int .i64 0] 3 (n := w.heap.size + 1 + 1) (by simp)
  have HKo := hid (keysof_n w.heap.size v l _ (hv.b.below hg0.below) hg0.below.size)
  obtain ⟨p0, p1⟩ := (hP.below hg0.below).two
  obtain ⟨ao, L, cap, rfl, hL, hc, hm, ht⟩ := hv
  clear ht hL hP
  refine callsIn_of_wp_marks Tryd.func64 rfl trivial ?_ rfl
  simp only [Tryd.ntmps64, List.size_toArray, List.length_cons, List.length_nil, Nat.reduceAdd, Nat.reduceSub, Array.replicate_succ, Array.replicate_zero, List.push_toArray, List.append_toArray, List.nil_append, List.cons_append]
  gi_wp2_with (gi_at_call 76; refine (callsIn_wide.2 HKo.out).mono ?_; rintro e w1 ⟨fv, rfl, hs, g1⟩)
  obtain ⟨gf, lb, rfl, eg, hseq⟩ := hs
  replace aA := g1.at aA
  replace aB := g1.at aB
  replace aC := g1.at aC
  have hB0 := bt hg0.below g1.below
  have hsz : w.heap.size + 1 + 1 + 1 ≤ w1.heap.size := by have := g1.below.size; simpa using this
  refine wpIn_rangeFunc_ownH rfl h1 (gf := gf) (lb := lb) rfl trivial eg hseq belowK_t (belowK_b (by omega)) (br w1) (fun _ => rfl)
    (fun pre W => ((At W w.heap.size #[.int .i64 a] 3 ∧ At W (w.heap.size + 1) #[.int .i64 b] 3) ∧ At W (w.heap.size + 1 + 1) #[.int .i64 (pre.countP (sameB a b))] 3) ∧ Below w.heap.size w W)
    (fun c pre W => False)
    (OwnFrom.and (OwnFrom.and (OwnFrom.and (Own.from (at_own _ _ _) _) (Own.from (at_own _ _ _) _)) (Own.from (at_own _ _ _) _)) (ownFrom_below (Nat.le_refl _) (by omega)))
    (fun c => fun _ _ _ _ hs _ _ => hs)
    ⟨⟨⟨aA, aB⟩, aC⟩, hB0⟩
    (fun x a' W => ∃ Bx, w.heap.size + 1 + 1 < Bx ∧ At W Bx #[.int .i64 x.f, .int .i64 x.e, .int .i64 x.k, .int .i64 x.o] 43 ∧ a' = { tmps := #[.pointer (some ⟨p, 0, none⟩), .int .i64 a, .int .i64 b, undef, .pointer (some ⟨w.heap.size, 0, none⟩), .pointer (some ⟨w.heap.size + 1, 0, none⟩), .int .i64 0, .pointer (some ⟨w.heap.size + 1 + 1, 0, none⟩), .pointer (some ⟨Bx, 0, none⟩), .pointer (some ⟨p, 0, none⟩), .pointer (some ⟨p, 0, none⟩), .pointer (some ⟨p, 1, none⟩), .slice ao L cap, .func (.func gf) #[] lb, kv x, undef, undef, undef, undef, undef, undef, undef, undef, undef, undef, undef, undef, undef], defers := [] })
    ?hAx ?assign ?body ?done ?stop
  case hAx =>
    intro x a' s X Y row hs hg hr
    obtain ⟨Bx, h1, h2, h3⟩ := hs
    exact ⟨Bx, h1, Own.from (at_own (β := Unit) Bx _ (fun _ => _)) _ () X Y row h2 hg hr, h3⟩
  case assign =>
    rintro l pre x W K ⟨⟨⟨hi1, hi2⟩, hi3⟩, hB⟩ hK
    gi_wp2
    exact hK _ _ ((KeepsOthers.alloc _ _).from _) ((Below.refl _ W).alloc hB.size _) ⟨⟨⟨hi1.more _, hi2.more _⟩, hi3.more _⟩, bal hB _⟩ ⟨W.heap.size, hi3.lt, At.new W _ _, rfl⟩
  case body =>
    rintro lp pre x a' W hlp ⟨r, hr⟩ ⟨⟨⟨hi1, hi2⟩, hi3⟩, hB⟩ ⟨Bx, hBx, bX, rfl⟩ hlt
    obtain ⟨x0, x1, x2, x3⟩ := bX.four
    have s0 := hi1.one
    have s1 := hi2.one
    have s2 := hi3.one
    have s3 := hi3.frozen 0
    have HA := hid hi1
    have HBb := hid hi2
    have HC := hid hi3
    have HB := hid hB
    have hcl : pre.countP (sameB a b) ≤ pre.length := List.countP_le_length
    have hlt' : pre.length < l.length := by simpa using hlt
    have HS := hid (count_snoc (sameB a b) pre x)
    generalize pre.countP (sameB a b) = c at HC hi3 hcl HS s2
    clear bX hi1 hi2 hi3 hB
    by_cases hE : x.e = a
    case neg =>
      have hd : (x.e == a) = false := by simpa using hE
      have HF : Hid (sameB a b x = false) := hid (by simp [sameB, hE])
      clear hE
      gi_wp2_with fail
      refine ⟨(KeepsOthers.refl _).from _, Below.refl _ _, ⟨⟨HA.out, HBb.out⟩, ?_⟩, HB.out⟩
      rw [HS.out, HF.out]
      simpa using HC.out
    have hd : (x.e == a) = true := by simpa using hE
    by_cases hE2 : x.k = b
    case neg =>
      have hd2 : (x.k == b) = false := by simpa using hE2
      have HF : Hid (sameB a b x = false) := hid (by simp [sameB, hE2])
      clear hE hE2
      gi_wp2_with fail
      refine ⟨(KeepsOthers.refl _).from _, Below.refl _ _, ⟨⟨HA.out, HBb.out⟩, ?_⟩, HB.out⟩
      rw [HS.out, HF.out]
      simpa using HC.out
    have hd2 : (x.k == b) = true := by simpa using hE2
    have HF : Hid (sameB a b x = true) := hid (by simp [sameB, hE, hE2])
    clear hE hE2
    gi_wp2_with fail
    refine ⟨(KeepsOthers.setCell _ _ _).from _, (Below.refl _ _).setCell (p := ⟨w.heap.size + 1 + 1, 0, none⟩) (by show w.heap.size ≤ w.heap.size + 1 + 1; omega) _, ⟨⟨HA.out.far (by omega) _, HBb.out.far (by omega) _⟩, ?_⟩, HB.out.setCell (p := ⟨w.heap.size + 1 + 1, 0, none⟩) (by show w.heap.size ≤ w.heap.size + 1 + 1; omega) _⟩
    rw [HS.out, HF.out]
    have := HC.out.put1 (.int .i64 (c + 1))
    simp
    exact this
  case done =>
    rintro D ys W hD rfl ⟨⟨⟨hi1, hi2⟩, hi3⟩, hB⟩ hK
    have cR := hi3.one
    obtain ⟨c, HCc⟩ : ∃ c, Hid ((keys l).countP (sameB a b) = c) := ⟨_, rfl⟩
    rw [HCc.out] at cR
    gi_wp2
    refine ⟨by simp, .inl ⟨_, _, rfl, run_takeDeferred hK, ?_⟩⟩
    exact ⟨_, results_tmp rfl _ _ _, by rw [HCc.out]; rfl, hB.trans (belowK_b (w := w) (Nat.le_refl _) _ D _ _ (by omega) hK rfl rfl)⟩
  case stop =>
    rintro D c pre W hD hpre h hK
    exact h.elim

end Go.Proofs.YtoogcbniphoaoaaDoor.Ev
