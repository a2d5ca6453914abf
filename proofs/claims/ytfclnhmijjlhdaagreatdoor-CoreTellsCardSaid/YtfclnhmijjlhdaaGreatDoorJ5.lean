/- The keys of events, and the keys of a list, gone through by functions (layer 11, event). -/
/- Keys that are gone through by a function: do they rise (layer 11, event). -/
/- Where a key stands among events in order, the event of a key, whether a list is in order (layer 11, event). -/
/- How many of some keys are those of events in order; how many events of a page are of an emitter and a kind (layer 11, event). -/
import Derived.Test.YtfclnhmijjlhdaaGreatDoorJ1
import Derived.RangeFuncNested
import Derived.RangeFuncBound
import Derived.RangeFuncCalls
import Derived.RangeFuncLeaves
import Derived.Shelf.Abstract
import Derived.Shelf.RegionOpen
import Derived.OwnWalkIn
import Derived.TacticsInMore
import Derived.LoopNIn
import Derived.LoopIn
import Derived.Test.YtfclnhmijjlhdaaGreatDoorJ3
import Derived.Test.YtfclnhmijjlhdaaGreatDoorJ4
import Derived.Test.YtfclnhmijjlhdaaGreatDoorEvD
namespace Go.Proofs.YtfclnhmijjlhdaaGreatDoor.Ev
open Go.RowKit Go.Shelf
set_option linter.unusedVariables false
attribute [local go_sem] Oper.semAt_some

/-- at ao, below block N, the rows l lie, k cells each. -/
def RowB (N : Nat) {α : Type} (enc : α → List Value) (k : Nat) (w : World) (ao : Option Addr) (l : List α) : Prop :=
 0 < l.length → ∃ b o, ao = some ⟨b, o, none⟩ ∧ b < N ∧ ∀ j (h : j < l.length) i v, (enc l[j])[i]? = some v → w.cell? ⟨b, o + j * k + i, none⟩ = some v
theorem RowB.below {N : Nat} {α : Type} {enc : α → List Value} {k : Nat} {w w' : World} {ao : Option Addr} {l : List α} (h : RowB N enc k w ao l) (hb : Below N w w') : RowB N enc k w' ao l := fun hl => by
 obtain ⟨b, o, e, hlt, hc⟩ := h hl
 exact ⟨b, o, e, hlt, fun j hj i v hv => (hb.cell (p := ⟨b, o + j * k + i, none⟩) hlt).trans (hc j hj i v hv)⟩
theorem RowB.row {N : Nat} {α : Type} {enc : α → List Value} {k : Nat} {w : World} {ao : Option Addr} {l : List α} (h : RowB N enc k w ao l) (hN : N ≤ w.heap.size) : Row enc k w ao l := fun hl => by
 obtain ⟨b, o, e, hlt, hc⟩ := h hl
 exact ⟨b, o, e, by omega, hc⟩
theorem Row.b {α : Type} {enc : α → List Value} {k : Nat} {w : World} {ao : Option Addr} {l : List α} (h : Row enc k w ao l) : RowB w.heap.size enc k w ao l := h
theorem take_snoc {α : Type} {l : List α} {k : Nat} {x : α} (hx : l[k]? = some x) : l.take k ++ [x] = l.take (k + 1) := by
 rw [List.take_add_one, hx]; rfl

set_option maxRecDepth 100000 in
set_option maxHeartbeats 1000000 in
theorem keys1_in (F : Fence) (n : Nat) (hf : F.fn 236) (hro : F.round = none) (hn : 1 ≤ n) (lp Bn n₀ : Nat) (ao : Option Addr) (L cap : Nat) (l : List Ev) (hL : l.length = L) (hcap : L ≤ 9223372036854775807) (J Jx : List Ky → World → Prop)
 (W : World) (hn0 : n₀ ≤ W.heap.size) (hJ : AbidesFrom W.heap.size J)
 (hY : ∀ pre x W, J pre W → pre.length < l.length → YieldAt F (n - 1) Tryz.prog lp #[kv x] W fun e W' =>
  (e = .returned (.bool true) ∧ J (pre ++ [x]) W' ∧ Below n₀ W W') ∨ (e = .returned (.bool false) ∧ Jx (pre ++ [x]) W'))
 (hBn : W.cell? ⟨Bn, 0, none⟩ = some (.slice ao L cap)) (hR : RowB n₀ ecs 9 W ao l) (h0 : J [] W) :
 CallsIn F n Tryz.prog 236 #[.func (.yield lp) #[] #[], .pointer (some ⟨Bn, 0, none⟩)] W fun e W' => (∃ v, e = .returned v) ∧
  ((∃ ys, ys = l.map Ev.key ∧ J ys W') ∨ (∃ pre, pre <+: l.map Ev.key ∧ Jx pre W')) := by
 have HL := hid hL
 clear hL
 refine callsIn_of_wp Tryz.func236 rfl hf ?_ hro
 simp only [Tryz.ntmps236, List.size_toArray, List.length_cons, List.length_nil, Nat.reduceAdd, Nat.reduceSub, Array.replicate_succ, Array.replicate_zero, List.push_toArray, List.append_toArray, List.nil_append, List.cons_append]
 gi_wp2
 gi_loopw [7] (fun i wr => ∃ k : Nat, k ≤ L ∧ i = .int .i64 k ∧ J ((l.map Ev.key).take k) wr ∧ Below n₀ W wr) (fun i _ => L - (intOf i).toNat)
 case atStart => exact ⟨0, Nat.zero_le _, rfl, h0, Below.refl _ _⟩
 case round =>
  obtain ⟨k, hk, rfl, hJs, hnx⟩ := hrel
  by_cases hlt : k < L
  · obtain ⟨x, hx⟩ : ∃ x, l[k]? = some x := ⟨l[k]'(by rw [HL.out]; exact hlt), List.getElem?_eq_getElem _⟩
    have hks : (l.map Ev.key)[k]? = some x.key := by simp [hx]
    have hk1 : (k : Int) < (L : Int) := by omega
    have hk0 : (0 : Int) ≤ (k : Int) := by omega
    obtain ⟨b, o, rfl, hb, c0, c1, c2, c3, c4, c5, c6, c7, c8⟩ := ((hR.below hnx).row (Nat.le_trans hn0 hnx.size)).ev hx
    obtain ⟨fn, tmps, assign, body, hy, hRd⟩ := hY ((l.map Ev.key).take k) x.key (wr.alloc (.cells #[.int .i64 x.key.f, .int .i64 x.key.e, .int .i64 x.key.k, .int .i64 x.key.o, .int .i64 x.a, .int .i64 x.g, .int .i64 x.p, .int .i64 x.r, .int .i64 x.l] 120)) (hJ _ _ _ none hJs (World.grownBy_alloc wr _ none) (by intro r e; cases e)) (by rw [List.length_take]; have := HL.out; simp; omega)
    have HX := hid hx
    have HK := hid hks
    clear hx hks
    gi_wp2
    refine hRd.mono ?_
    rintro e W3 (⟨rfl, hJ3, hk3⟩ | ⟨rfl, hJx3⟩)
    · rw [take_snoc HK.out] at hJ3
      gi_wp2
      go_roundw
      case rel => exact ⟨k + 1, by omega, by go_num, hJ3, (hnx.alloc (Nat.le_trans hn0 hnx.size) _).trans hk3⟩
      case measure => simp [intOf]; omega
    · rw [take_snoc HK.out] at hJx3
      gi_wp2
      refine bodyPost_ret (results_none rfl _ _ _) rfl ?_
      exact ⟨⟨_, rfl⟩, .inr ⟨_, List.take_prefix _ _, hJx3⟩⟩
  · have hd : decide ((k : Int) < (L : Int)) = false := by simp; omega
    have HN : Hid (J (l.map Ev.key) wr) := by
     have := hJs
     rwa [List.take_of_length_le (by have := HL.out; simp; omega)] at this
    gi_wp2
    go_end0
    exact ⟨⟨_, rfl⟩, .inl ⟨_, rfl, HN.out⟩⟩

/-- the iterator fv goes through the keys ks, whose lists lie below block N. -/
def SeqV (N : Nat) (w : World) (fv : Value) (ks : List Ky) : Prop :=
 ∃ gf lb, fv = .func (.func gf) #[] lb ∧ (∀ args w, (callFunc gf args).run Tryz.prog w = .ok (.enter gf args) w) ∧ SeqStopsK Fence.wide 5 Tryz.prog gf lb (fun k => #[kv k]) (Below N) (fun xs => xs = ks) (fun pre => pre <+: ks) ks.length w
theorem SeqV.below {N : Nat} {w w' : World} {fv : Value} {ks : List Ky} (h : SeqV N w fv ks) (hb : Below w.heap.size w w') : SeqV N w' fv ks := by
 obtain ⟨gf, lb, e, eg, hs⟩ := h
 exact ⟨gf, lb, e, eg, fun l J Jx W hW hJ hJx hY h0 => hs l J Jx W (bt hb hW) hJ hJx hY h0⟩

/-- v is a slice that reads as l, whose rows lie below block N. -/
def SlB (N : Nat) {α : Type} (enc : α → List Value) (k : Nat) (w : World) (v : Value) (l : List α) : Prop :=
 ∃ ao L cap, v = .slice ao L cap ∧ l.length = L ∧ L ≤ cap ∧ cap ≤ 9223372036854775807 ∧ RowB N enc k w ao l
theorem Sl.b {α : Type} {enc : α → List Value} {k : Nat} {w : World} {v : Value} {l : List α} (h : Sl enc k w v l) : SlB w.heap.size enc k w v l := h
theorem SlB.below {N : Nat} {α : Type} {enc : α → List Value} {k : Nat} {w w' : World} {v : Value} {l : List α} (h : SlB N enc k w v l) (hb : Below N w w') : SlB N enc k w' v l := by
 obtain ⟨ao, L, cap, e, h1, h2, h3, h4⟩ := h
 exact ⟨ao, L, cap, e, h1, h2, h3, h4.below hb⟩
theorem SlB.sl {N : Nat} {α : Type} {enc : α → List Value} {k : Nat} {w : World} {v : Value} {l : List α} (h : SlB N enc k w v l) (hN : N ≤ w.heap.size) : Sl enc k w v l := by
 obtain ⟨ao, L, cap, e, h1, h2, h3, h4⟩ := h
 exact ⟨ao, L, cap, e, h1, h2, h3, h4.row hN⟩

theorem keysof_n (N : Nat) (v : Value) (l : List Ev) (w : World) (h : SlB N ecs 9 w v l) (hN : N ≤ w.heap.size) :
 Calls Tryz.prog 217 #[v] w fun e w' => ∃ fv, e = .returned fv ∧ SeqV N w' fv (keys l) ∧ Gr w w' := by
 obtain ⟨ao, L, cap, rfl, hL, hc, hm, ht⟩ := h
 have HS : Hid (SeqV N (w.alloc (.cells #[.slice ao L cap] 49)) (.func (.func 236) #[] #[.pointer (some ⟨w.heap.size, 0, none⟩)]) (keys l)) := by
  refine ⟨_, _, rfl, enters_of Tryz.func236 (by kernel_rfl) rfl, fun lp J Jx W hW hJ hJx hY h0 => ?_⟩
  have hB : Below w.heap.size w W := bt (bal (br w) _) hW
  refine keys1_in Fence.wide 5 trivial rfl (by omega) lp w.heap.size N ao L cap l hL (by omega) J Jx W (Nat.le_trans hN hB.size) hJ ?_ ?_ (ht.below (hB.mono hN)) h0
  · intro pre x W1 h1 h2
    exact hY pre x W1 h1 (by simpa using h2)
  · exact ((At.new w #[.slice ao L cap] 49).below hW).one
 have hmf : ∀ (fn : Fn) (first cap : Array Value) (w : World), (Instr.makeFunc fn first cap).run Tryz.prog w = .ok (.func fn first cap) w := fun _ _ _ _ => rfl
 clear ht hL
 go_enter Tryz.func217, Tryz.ntmps217
 go_wp2_with fail
 go_ret
 exact ⟨_, rfl, HS.out, gal (gr w) _⟩
theorem keysof_c (v : Value) (l : List Ev) (w : World) (h : Evs w v l) :
 Calls Tryz.prog 217 #[v] w fun e w' => ∃ fv, e = .returned fv ∧ SeqV w.heap.size w' fv (keys l) ∧ Gr w w' := keysof_n _ v l w h.b (Nat.le_refl _)

end Go.Proofs.YtfclnhmijjlhdaaGreatDoor.Ev

namespace Go.Proofs.YtfclnhmijjlhdaaGreatDoor.Ev
open Go.RowKit Go.Shelf
set_option linter.unusedVariables false
attribute [local go_sem] Oper.semAt_some

theorem Gr.grownBy {w w' : World} (h : Gr w w') : w.grownBy w' none := by
 obtain ⟨q, os, rfl⟩ := h
 exact ⟨rfl, rfl, rfl, by simp, fun k hk _ => Go.Sort.heap_grow_old _ _ hk⟩
theorem Gr.from {w w' : World} (h : Gr w w') (B : Nat) : KeepsFrom B w w' := KeepsFrom.of_grownBy h.grownBy (fun j e => by cases e)
theorem Gr.at {w w' : World} (h : Gr w w') {b : Nat} {cs : Array Value} {T : TypeId} (k : At w b cs T) : At w' b cs T := k.below h.below
theorem At.kept {W W' : World} {row : Option Nat} {B : Nat} {cs : Array Value} {t : TypeId} (h : At W B cs t) (hg : W.grownBy W' row) (hne : some B ≠ row) : At W' B cs t := (hg.block B h.lt hne).trans h
theorem at_own {β : Type} (B : Nat) (t : TypeId) (f : β → Array Value) : Own (fun s W => At W B (f s) t) := fun s X Y row hs hg hrow =>
 hs.kept hg (fun e' => by obtain ⟨o, ho, hc⟩ := hrow B e'.symm; rw [show X.heap[B]? = _ from hs] at ho; cases ho; cases hc)
theorem At.far {w : World} {b c j : Nat} {cs : Array Value} {T : TypeId} (h : At w b cs T) (hn : b ≠ c) (v : Value) : At (w.setCell ⟨c, j, none⟩ v) b cs T := by
 unfold At at h ⊢
 rw [Below.heap_setCell _ _ _ _ hn]
 exact h
/-- an answer that lies in a block. -/
theorem At.put1 {w : World} {b : Nat} {x0 : Value} {T : TypeId} (h : At w b #[x0] T) (v : Value) : At (w.setCell ⟨b, 0, none⟩ v) b #[v] T := heap_setCell_same w b 0 _ _ v h
theorem At.put4 {w : World} {b : Nat} {x0 x1 x2 x3 : Value} {T : TypeId} (h : At w b #[x0, x1, x2, x3] T) (v0 v1 v2 v3 : Value) : At ((((w.setCell ⟨b, 0, none⟩ v0).setCell ⟨b, 1, none⟩ v1).setCell ⟨b, 2, none⟩ v2).setCell ⟨b, 3, none⟩ v3) b #[v0, v1, v2, v3] T :=
 heap_setCell_same _ b 3 _ _ v3 (heap_setCell_same _ b 2 _ _ v2 (heap_setCell_same _ b 1 _ _ v1 (heap_setCell_same w b 0 _ _ v0 h)))

def zeroK : Ky := ⟨0, 0, 0, 0⟩
def lastK (l : List Ky) : Ky := l.getLast?.getD zeroK
theorem zero_lt {k : Ky} (h : keyB k = true) : ltK zeroK k := by
 unfold keyB inB at h
 simp at h
 unfold ltK zeroK
 simp
 omega
theorem last_snoc (l : List Ky) (x : Ky) : lastK (l ++ [x]) = x := by simp [lastK]
theorem ris_snoc {l : List Ky} {x : Ky} (h : risB l = true) (hx : keyB x = true) (hl : ltK (lastK l) x) : risB (l ++ [x]) = true := by
 unfold risB at h ⊢
 simp at h
 rw [List.all_append, decide_eq_true (up_snoc h.2 x fun y hy => by simpa [lastK, hy] using hl)]
 simp [hx]
 exact h.1
theorem ris_bad1 {l ks : List Ky} {x : Ky} (hp : l ++ [x] <+: ks) (hx : keyB x = false) : risB ks = false := by
 obtain ⟨t, rfl⟩ := hp
 unfold risB
 simp [hx]
theorem ris_bad2 {l ks : List Ky} {x : Ky} (hp : l ++ [x] <+: ks) (hx : keyB x = true) (hl : ¬ ltK (lastK l) x) : risB ks = false := by
 obtain ⟨t, rfl⟩ := hp
 unfold risB
 rw [decide_eq_false]
 · simp
 · intro hu
   unfold up at hu
   rw [List.pairwise_append] at hu
   cases h : l.getLast? with
   | none => exact hl (by simpa [lastK, h] using zero_lt hx)
   | some y => exact hl (by simpa [lastK, h] using up_last hu.1 h)

end Go.Proofs.YtfclnhmijjlhdaaGreatDoor.Ev

namespace Go.Proofs.YtfclnhmijjlhdaaGreatDoor.Ev
open Go.RowKit Go.Sort
set_option linter.unusedVariables false

theorem Gr.set {w W : World} (h : Gr w W) {b : Nat} (hb : w.heap.size ≤ b) (j : Nat) (v : Value) : Gr w (W.setCell ⟨b, j, none⟩ v) := by
 obtain ⟨q, os, rfl⟩ := h
 refine ⟨q, ?_, ?_⟩
 rotate_left
 · unfold World.setCell grow
   simp only
   rw [modify_append_right _ _ _ _ (by exact hb)]

def zeroE : Ev := ⟨⟨0, 0, 0, 0⟩, 0, 0, 0, 0, 0⟩

theorem lo_get {l : List Ev} (hu : up (keys l)) {q : Ky} (hq : q ∈ keys l) : ∃ x, l[lo (keys l) q]? = some x ∧ getK l q = some x := by
 cases hp : (keys l)[lo (keys l) q]? with
 | none =>
  have := has_none hu hp
  rw [decide_eq_false_iff_not] at this
  exact (this hq).elim
 | some p =>
  have h := has_some hu hp
  rw [decide_eq_true hq] at h
  have hpq : p = q := by
   have := h.symm
   rw [beq_iff_eq, cmpK_zero] at this
   exact this
  subst hpq
  simp at hp
  obtain ⟨x, hx, rfl⟩ := hp
  exact ⟨x, hx, getK_mem (up_nodup hu) (List.mem_of_getElem? hx)⟩

set_option maxRecDepth 100000 in
theorem place_c (v : Value) (l : List Ev) (q : Ky) (w : World) (h : Evs w v l) (hu : up (keys l)) (hl : l.length ≤ 4096) :
 Calls Tryz.prog 182 #[v, kv q] w fun e w' => e = .returned (.tuple #[.int .i64 (lo (keys l) q), .bool (decide (q ∈ keys l))]) ∧ Gr w w' := by
 have hS := fun (W : World) (g : Gr w W) => search_c v l q W (h.below g.below) hu hl
 have HS := hid (hS _ (gal (gr w) (.cells #[.int .i64 q.f, .int .i64 q.e, .int .i64 q.k, .int .i64 q.o] 118)))
 clear hS h hu hl
 generalize decide (q ∈ keys l) = B at HS ⊢
 generalize lo (keys l) q = n at HS ⊢
 go_enter Tryz.func182, Tryz.ntmps182
 go_wp2_with (go_at_call 218; ((with_reducible refine HS.out.mono ?_); rintro e w1 ⟨rfl, hB⟩))
 go_ret2
 exact ⟨rfl, gt (gal (gr w) _) hB⟩

theorem results_find {fn : Func} (h : fn.results = #[.cell 4 120, .tmp 5]) (tmps : Array Value) (W : World) (b : Nat) (hp : tmps[4]?.getD undef = .pointer (some ⟨b, 0, none⟩)) (x : Ev) (hA : At W b (ecs x).toArray 120) :
 (results fn tmps).run Tryz.prog W = .ok (.tuple #[ev x, tmps.getD 5 undef]) W := by
 obtain ⟨c0, c1, c2, c3, c4, c5, c6, c7, c8⟩ := hA.nine
 simp [results, h, hp, go_sem, c0, c1, c2, c3, c4, c5, c6, c7, c8]
theorem At.put9 {w : World} {b : Nat} {x0 x1 x2 x3 x4 x5 x6 x7 x8 : Value} {T : TypeId} (h : At w b #[x0, x1, x2, x3, x4, x5, x6, x7, x8] T) (v0 v1 v2 v3 v4 v5 v6 v7 v8 : Value) :
 At (((((((((w.setCell ⟨b, 0, none⟩ v0).setCell ⟨b, 1, none⟩ v1).setCell ⟨b, 2, none⟩ v2).setCell ⟨b, 3, none⟩ v3).setCell ⟨b, 4, none⟩ v4).setCell ⟨b, 5, none⟩ v5).setCell ⟨b, 6, none⟩ v6).setCell ⟨b, 7, none⟩ v7).setCell ⟨b, 8, none⟩ v8) b #[v0, v1, v2, v3, v4, v5, v6, v7, v8] T := by
 have h0 : At (w.setCell ⟨b, 0, none⟩ v0) b #[v0, x1, x2, x3, x4, x5, x6, x7, x8] T := heap_setCell_same _ b 0 _ _ v0 h
 have h1 : At ((w.setCell ⟨b, 0, none⟩ v0).setCell ⟨b, 1, none⟩ v1) b #[v0, v1, x2, x3, x4, x5, x6, x7, x8] T := heap_setCell_same _ b 1 _ _ v1 h0
 have h2 : At (((w.setCell ⟨b, 0, none⟩ v0).setCell ⟨b, 1, none⟩ v1).setCell ⟨b, 2, none⟩ v2) b #[v0, v1, v2, x3, x4, x5, x6, x7, x8] T := heap_setCell_same _ b 2 _ _ v2 h1
 have h3 : At ((((w.setCell ⟨b, 0, none⟩ v0).setCell ⟨b, 1, none⟩ v1).setCell ⟨b, 2, none⟩ v2).setCell ⟨b, 3, none⟩ v3) b #[v0, v1, v2, v3, x4, x5, x6, x7, x8] T := heap_setCell_same _ b 3 _ _ v3 h2
 have h4 : At (((((w.setCell ⟨b, 0, none⟩ v0).setCell ⟨b, 1, none⟩ v1).setCell ⟨b, 2, none⟩ v2).setCell ⟨b, 3, none⟩ v3).setCell ⟨b, 4, none⟩ v4) b #[v0, v1, v2, v3, v4, x5, x6, x7, x8] T := heap_setCell_same _ b 4 _ _ v4 h3
 have h5 : At ((((((w.setCell ⟨b, 0, none⟩ v0).setCell ⟨b, 1, none⟩ v1).setCell ⟨b, 2, none⟩ v2).setCell ⟨b, 3, none⟩ v3).setCell ⟨b, 4, none⟩ v4).setCell ⟨b, 5, none⟩ v5) b #[v0, v1, v2, v3, v4, v5, x6, x7, x8] T := heap_setCell_same _ b 5 _ _ v5 h4
 have h6 : At (((((((w.setCell ⟨b, 0, none⟩ v0).setCell ⟨b, 1, none⟩ v1).setCell ⟨b, 2, none⟩ v2).setCell ⟨b, 3, none⟩ v3).setCell ⟨b, 4, none⟩ v4).setCell ⟨b, 5, none⟩ v5).setCell ⟨b, 6, none⟩ v6) b #[v0, v1, v2, v3, v4, v5, v6, x7, x8] T := heap_setCell_same _ b 6 _ _ v6 h5
 have h7 : At ((((((((w.setCell ⟨b, 0, none⟩ v0).setCell ⟨b, 1, none⟩ v1).setCell ⟨b, 2, none⟩ v2).setCell ⟨b, 3, none⟩ v3).setCell ⟨b, 4, none⟩ v4).setCell ⟨b, 5, none⟩ v5).setCell ⟨b, 6, none⟩ v6).setCell ⟨b, 7, none⟩ v7) b #[v0, v1, v2, v3, v4, v5, v6, v7, x8] T := heap_setCell_same _ b 7 _ _ v7 h6
 have h8 : At (((((((((w.setCell ⟨b, 0, none⟩ v0).setCell ⟨b, 1, none⟩ v1).setCell ⟨b, 2, none⟩ v2).setCell ⟨b, 3, none⟩ v3).setCell ⟨b, 4, none⟩ v4).setCell ⟨b, 5, none⟩ v5).setCell ⟨b, 6, none⟩ v6).setCell ⟨b, 7, none⟩ v7).setCell ⟨b, 8, none⟩ v8) b #[v0, v1, v2, v3, v4, v5, v6, v7, v8] T := heap_setCell_same _ b 8 _ _ v8 h7
 exact h8
theorem Gr.set9 {w W : World} (h : Gr w W) {b : Nat} (hb : w.heap.size ≤ b) (v0 v1 v2 v3 v4 v5 v6 v7 v8 : Value) :
 Gr w (((((((((W.setCell ⟨b, 0, none⟩ v0).setCell ⟨b, 1, none⟩ v1).setCell ⟨b, 2, none⟩ v2).setCell ⟨b, 3, none⟩ v3).setCell ⟨b, 4, none⟩ v4).setCell ⟨b, 5, none⟩ v5).setCell ⟨b, 6, none⟩ v6).setCell ⟨b, 7, none⟩ v7).setCell ⟨b, 8, none⟩ v8) :=
 ((((((((h.set hb _ _).set hb _ _).set hb _ _).set hb _ _).set hb _ _).set hb _ _).set hb _ _).set hb _ _).set hb _ _

theorem all_keys {l : List Ev} (h : l.all evB = true) : (keys l).all keyB = true := by
 rw [List.all_eq_true] at h ⊢
 intro k hk
 obtain ⟨x, hx, rfl⟩ := List.mem_map.1 hk
 have := h x hx
 unfold evB at this
 simp at this
 exact this.1.1.1.1.1

end Go.Proofs.YtfclnhmijjlhdaaGreatDoor.Ev

namespace Go.Proofs.YtfclnhmijjlhdaaGreatDoor.Ev
open Go.RowKit Go.Shelf
set_option linter.unusedVariables false
attribute [local go_sem] Oper.semAt_some

theorem count_snoc (p : Ky → Bool) (l : List Ky) (x : Ky) : (l ++ [x]).countP p = l.countP p + (if p x then 1 else 0) := by
 rw [List.countP_append]
 simp [List.countP_singleton]
theorem KeepsFrom.gr_set {B : Nat} {W W1 : World} (g : Gr W W1) (p : Addr) (v : Value) : KeepsFrom B W (W1.setCell p v) := KeepsFrom.trans (g.from B) ((KeepsOthers.setCell _ _ _).from B)

/-- of an emitter and a kind. -/
def sameB (a b : Int) (k : Ky) : Bool := decide (k.e = a) && decide (k.k = b)

set_option maxRecDepth 100000 in
set_option maxHeartbeats 1000000 in
theorem count_c (p : Nat) (fr : Int) (v : Value) (l : List Ev) (a b : Int) (w : World) (hP : At w p #[.int .i64 fr, v] 153) (hv : Evs w v l) (hl : l.length ≤ 4096) :
 Calls Tryz.prog 181 #[.pointer (some ⟨p, 0, none⟩), .int .i64 a, .int .i64 b] w fun e w' => e = .returned (.int .i64 ((keys l).countP (sameB a b))) ∧ Below w.heap.size w w' := by
 refine (callsIn_wide (n := 6)).1 ?_
 have h1 : 1 ≤ 6 := by omega
 have hw1 : Fence.wide.fn 217 := trivial
 have hg0 := gal (gal (gal (gr w) (.cells #[.int .i64 a] 3)) (.cells #[.int .i64 b] 3)) (.cells #[.int .i64 0] 3)
 have aA := ((At.new w #[.int .i64 a] 3).more (.cells #[.int .i64 b] 3)).more (.cells #[.int .i64 0] 3)
 have aB := (At.newAt (w.alloc (.cells #[.int .i64 a] 3)) #[.int .i64 b] 3 (n := w.heap.size + 1) (by simp)).more (.cells #[.int .i64 0] 3)
 have aC := At.newAt ((w.alloc (.cells #[.int .i64 a] 3)).alloc (.cells #[.int .i64 b] 3)) #[.int .i64 0] 3 (n := w.heap.size + 1 + 1) (by simp)
 have HKo := hid (keysof_n w.heap.size v l _ (hv.b.below hg0.below) hg0.below.size)
 obtain ⟨p0, p1⟩ := (hP.below hg0.below).two
 obtain ⟨ao, L, cap, rfl, hL, hc, hm, ht⟩ := hv
 clear ht hL hP
 refine callsIn_of_wp_marks Tryz.func181 rfl trivial ?_ rfl
 simp only [Tryz.ntmps181, List.size_toArray, List.length_cons, List.length_nil, Nat.reduceAdd, Nat.reduceSub, Array.replicate_succ, Array.replicate_zero, List.push_toArray, List.append_toArray, List.nil_append, List.cons_append]
 gi_wp2_with (gi_at_call 217; refine (callsIn_wide.2 HKo.out).mono ?_; rintro e w1 ⟨fv, rfl, hs, g1⟩)
 obtain ⟨gf, lb, rfl, eg, hseq⟩ := hs
 replace aA := g1.at aA
 replace aB := g1.at aB
 replace aC := g1.at aC
 have hB0 := bt hg0.below g1.below
 have hsz : w.heap.size + 1 + 1 + 1 ≤ w1.heap.size := by have := g1.below.size; simpa using this
 refine wpIn_rangeFunc_ownH rfl h1 (gf := gf) (lb := lb) rfl trivial eg hseq belowK_t (belowK_b (by omega)) (br w1) (fun _ => rfl)
  (fun pre W => ((At W w.heap.size #[.int .i64 a] 3 ∧ At W (w.heap.size + 1) #[.int .i64 b] 3) ∧ At W (w.heap.size + 1 + 1) #[.int .i64 (pre.countP (sameB a b))] 3) ∧ Below w.heap.size w W)
  (fun c pre W => False)
  (OwnFrom.and (OwnFrom.and (OwnFrom.and (Own.from (at_own _ _ _) _) (Own.from (at_own _ _ _) _)) (Own.from (at_own _ _ _) _)) (ownFrom_below (Nat.le_refl _) (by omega)))
  (fun c => fun _ _ _ _ hs _ _ => hs)
  ⟨⟨⟨aA, aB⟩, aC⟩, hB0⟩
  (fun x a' W => ∃ Bx, w.heap.size + 1 + 1 < Bx ∧ At W Bx #[.int .i64 x.f, .int .i64 x.e, .int .i64 x.k, .int .i64 x.o] 118 ∧ a' = { tmps := #[.pointer (some ⟨p, 0, none⟩), .int .i64 a, .int .i64 b, undef, .pointer (some ⟨w.heap.size, 0, none⟩), .pointer (some ⟨w.heap.size + 1, 0, none⟩), .int .i64 0, .pointer (some ⟨w.heap.size + 1 + 1, 0, none⟩), .pointer (some ⟨Bx, 0, none⟩), .pointer (some ⟨p, 0, none⟩), .pointer (some ⟨p, 0, none⟩), .pointer (some ⟨p, 1, none⟩), .slice ao L cap, .func (.func gf) #[] lb, kv x, undef, undef, undef, undef, undef, undef, undef, undef, undef, undef, undef, undef, undef], defers := [] })
  ?hAx ?assign ?body ?done ?stop
 case hAx =>
  intro x a' s X Y row hs hg hr
  obtain ⟨Bx, h1, h2, h3⟩ := hs
  exact ⟨Bx, h1, Own.from (at_own (β := Unit) Bx _ (fun _ => _)) _ () X Y row h2 hg hr, h3⟩
 case assign =>
  rintro l pre x W K ⟨⟨⟨hi1, hi2⟩, hi3⟩, hB⟩ hK
  gi_wp2
  exact hK _ _ ((KeepsOthers.alloc _ _).from _) ((Below.refl _ W).alloc hB.size _) ⟨⟨⟨hi1.more _, hi2.more _⟩, hi3.more _⟩, bal hB _⟩ ⟨W.heap.size, hi3.lt, At.new W _ _, rfl⟩
 case body =>
  rintro lp pre x a' W hlp ⟨r, hr⟩ ⟨⟨⟨hi1, hi2⟩, hi3⟩, hB⟩ ⟨Bx, hBx, bX, rfl⟩ hlt
  obtain ⟨x0, x1, x2, x3⟩ := bX.four
  have s0 := hi1.one
  have s1 := hi2.one
  have s2 := hi3.one
  have s3 := hi3.frozen 0
  have HA := hid hi1
  have HBb := hid hi2
  have HC := hid hi3
  have HB := hid hB
  have hcl : pre.countP (sameB a b) ≤ pre.length := List.countP_le_length
  have hlt' : pre.length < l.length := by simpa using hlt
  have HS := hid (count_snoc (sameB a b) pre x)
  generalize pre.countP (sameB a b) = c at HC hi3 hcl HS s2
  clear bX hi1 hi2 hi3 hB
  by_cases hE : x.e = a
  case neg =>
   have hd : (x.e == a) = false := by simpa using hE
   have HF : Hid (sameB a b x = false) := hid (by simp [sameB, hE])
   clear hE
   gi_wp2_with fail
   refine ⟨(KeepsOthers.refl _).from _, Below.refl _ _, ⟨⟨HA.out, HBb.out⟩, ?_⟩, HB.out⟩
   rw [HS.out, HF.out]
   simpa using HC.out
  have hd : (x.e == a) = true := by simpa using hE
  by_cases hE2 : x.k = b
  case neg =>
   have hd2 : (x.k == b) = false := by simpa using hE2
   have HF : Hid (sameB a b x = false) := hid (by simp [sameB, hE2])
   clear hE hE2
   gi_wp2_with fail
   refine ⟨(KeepsOthers.refl _).from _, Below.refl _ _, ⟨⟨HA.out, HBb.out⟩, ?_⟩, HB.out⟩
   rw [HS.out, HF.out]
   simpa using HC.out
  have hd2 : (x.k == b) = true := by simpa using hE2
  have HF : Hid (sameB a b x = true) := hid (by simp [sameB, hE, hE2])
  clear hE hE2
  gi_wp2_with fail
  refine ⟨(KeepsOthers.setCell _ _ _).from _, (Below.refl _ _).setCell (p := ⟨w.heap.size + 1 + 1, 0, none⟩) (by show w.heap.size ≤ w.heap.size + 1 + 1; omega) _, ⟨⟨HA.out.far (by omega) _, HBb.out.far (by omega) _⟩, ?_⟩, HB.out.setCell (p := ⟨w.heap.size + 1 + 1, 0, none⟩) (by show w.heap.size ≤ w.heap.size + 1 + 1; omega) _⟩
  rw [HS.out, HF.out]
  have := HC.out.put1 (.int .i64 (c + 1))
  simp
  exact this
 case done =>
  rintro D ys W hD rfl ⟨⟨⟨hi1, hi2⟩, hi3⟩, hB⟩ hK
  have cR := hi3.one
  obtain ⟨c, HCc⟩ : ∃ c, Hid ((keys l).countP (sameB a b) = c) := ⟨_, rfl⟩
  rw [HCc.out] at cR
  gi_wp2
  refine ⟨by simp, .inl ⟨_, _, rfl, run_takeDeferred hK, ?_⟩⟩
  exact ⟨_, results_tmp rfl _ _ _, by rw [HCc.out]; rfl, hB.trans (belowK_b (w := w) (Nat.le_refl _) _ D _ _ (by omega) hK rfl rfl)⟩
 case stop =>
  rintro D c pre W hD hpre h hK
  exact h.elim

end Go.Proofs.YtfclnhmijjlhdaaGreatDoor.Ev
