/- The keys of events, and the keys of a list, gone through by functions (layer 11, event). -/
import Derived.Test.YtoogcbniphoaoaaDoorEvWorld
import Derived.RangeFuncNested
import Derived.RangeFuncBound
import Derived.RangeFuncCalls
import Derived.RangeFuncLeaves
import Derived.Shelf.Abstract
import Derived.Shelf.RegionOpen
import Derived.OwnWalkIn
import Derived.TacticsInMore
import Derived.LoopNIn
import Derived.LoopIn
namespace Go.Proofs.YtoogcbniphoaoaaDoor.Ev
open Go.RowKit Go.Shelf
set_option linter.unusedVariables false
attribute [local go_sem] Oper.semAt_some

/-- at ao, below block N, the rows l lie, k cells each. -/
def RowB (N : Nat) {α : Type} (enc : α → List Value) (k : Nat) (w : World) (ao : Option Addr) (l : List α) : Prop :=
  0 < l.length → ∃ b o, ao = some ⟨b, o, none⟩ ∧ b < N ∧ ∀ j (h : j < l.length) i v, (enc l[j])[i]? = some v → w.cell? ⟨b, o + j * k + i, none⟩ = some v
theorem RowB.below {N : Nat} {α : Type} {enc : α → List Value} {k : Nat} {w w' : World} {ao : Option Addr} {l : List α} (h : RowB N enc k w ao l) (hb : Below N w w') : RowB N enc k w' ao l := fun hl => by
  obtain ⟨b, o, e, hlt, hc⟩ := h hl
  exact ⟨b, o, e, hlt, fun j hj i v hv => (hb.cell (p := ⟨b, o + j * k + i, none⟩) hlt).trans (hc j hj i v hv)⟩
theorem RowB.row {N : Nat} {α : Type} {enc : α → List Value} {k : Nat} {w : World} {ao : Option Addr} {l : List α} (h : RowB N enc k w ao l) (hN : N ≤ w.heap.size) : Row enc k w ao l := fun hl => by
  obtain ⟨b, o, e, hlt, hc⟩ := h hl
  exact ⟨b, o, e, by omega, hc⟩
theorem Row.b {α : Type} {enc : α → List Value} {k : Nat} {w : World} {ao : Option Addr} {l : List α} (h : Row enc k w ao l) : RowB w.heap.size enc k w ao l := h
theorem take_snoc {α : Type} {l : List α} {k : Nat} {x : α} (hx : l[k]? = some x) : l.take k ++ [x] = l.take (k + 1) := by
  rw [List.take_add_one, hx]; rfl

set_option maxRecDepth 100000 in
set_option maxHeartbeats 1000000 in
theorem keys1_in (F : Fence) (n : Nat) (hf : F.fn 84) (hro : F.round = none) (hn : 1 ≤ n) (lp Bn n₀ : Nat) (ao : Option Addr) (L cap : Nat) (l : List Ev) (hL : l.length = L) (hcap : L ≤ 9223372036854775807) (J Jx : List Ky → World → Prop)
    (W : World) (hn0 : n₀ ≤ W.heap.size) (hJ : AbidesFrom W.heap.size J)
    (hY : ∀ pre x W, J pre W → pre.length < l.length → YieldAt F (n - 1) Tryd.prog lp #[kv x] W fun e W' =>
      (e = .returned (.bool true) ∧ J (pre ++ [x]) W' ∧ Below n₀ W W') ∨ (e = .returned (.bool false) ∧ Jx (pre ++ [x]) W'))
    (hBn : W.cell? ⟨Bn, 0, none⟩ = some (.slice ao L cap)) (hR : RowB n₀ ecs 9 W ao l) (h0 : J [] W) :
    CallsIn F n Tryd.prog 84 #[.func (.yield lp) #[] #[], .pointer (some ⟨Bn, 0, none⟩)] W fun e W' => (∃ v, e = .returned v) ∧
      ((∃ ys, ys = l.map Ev.key ∧ J ys W') ∨ (∃ pre, pre <+: l.map Ev.key ∧ Jx pre W')) := by
  have HL := hid hL
  clear hL
  refine callsIn_of_wp Tryd.func84 rfl hf ?_ hro
  simp only [Tryd.ntmps84, List.size_toArray, List.length_cons, List.length_nil, Nat.reduceAdd, Nat.reduceSub, Array.replicate_succ, Array.replicate_zero, List.push_toArray, List.append_toArray, List.nil_append, List.cons_append]
  gi_wp2
  gi_loopw [7] (fun i wr => ∃ k : Nat, k ≤ L ∧ i = .int .i64 k ∧ J ((l.map Ev.key).take k) wr ∧ Below n₀ W wr) (fun i _ => L - (intOf i).toNat)
  case atStart => exact ⟨0, Nat.zero_le _, rfl, h0, Below.refl _ _⟩
  case round =>
    obtain ⟨k, hk, rfl, hJs, hnx⟩ := hrel
    by_cases hlt : k < L
    · obtain ⟨x, hx⟩ : ∃ x, l[k]? = some x := ⟨l[k]'(by rw [HL.out]; exact hlt), List.getElem?_eq_getElem _⟩
      have hks : (l.map Ev.key)[k]? = some x.key := by simp [hx]
      have hk1 : (k : Int) < (L : Int) := by omega
      have hk0 : (0 : Int) ≤ (k : Int) := by omega
      obtain ⟨b, o, rfl, hb, c0, c1, c2, c3, c4, c5, c6, c7, c8⟩ := ((hR.below hnx).row (Nat.le_trans hn0 hnx.size)).ev hx
      obtain ⟨fn, tmps, assign, body, hy, hRd⟩ := hY ((l.map Ev.key).take k) x.key (wr.alloc (.cells #[.int .i64 x.key.f, .int .i64 x.key.e, .int .i64 x.key.k, .int .i64 x.key.o, .int .i64 x.a, .int .i64 x.g, .int .i64 x.p, .int .i64 x.r, .int .i64 x.l] 45)) (hJ _ _ _ none hJs (World.grownBy_alloc wr _ none) (by intro r e; cases e)) (by rw [List.length_take]; have := HL.out; simp; omega)
      have HX := hid hx
      have HK := hid hks
      clear hx hks
      gi_wp2
      refine hRd.mono ?_
      rintro e W3 (⟨rfl, hJ3, hk3⟩ | ⟨rfl, hJx3⟩)
      · rw [take_snoc HK.out] at hJ3
        gi_wp2
        go_roundw
        case rel => exact ⟨k + 1, by omega, by go_num, hJ3, (hnx.alloc (Nat.le_trans hn0 hnx.size) _).trans hk3⟩
        case measure => simp [intOf]; omega
      · rw [take_snoc HK.out] at hJx3
        gi_wp2
        refine bodyPost_ret (results_none rfl _ _ _) rfl ?_
        exact ⟨⟨_, rfl⟩, .inr ⟨_, List.take_prefix _ _, hJx3⟩⟩
    · have hd : decide ((k : Int) < (L : Int)) = false := by simp; omega
      have HN : Hid (J (l.map Ev.key) wr) := by
        have := hJs
        rwa [List.take_of_length_le (by have := HL.out; simp; omega)] at this
      gi_wp2
      go_end0
      exact ⟨⟨_, rfl⟩, .inl ⟨_, rfl, HN.out⟩⟩

/-- the iterator fv goes through the keys ks, whose lists lie below block N. -/
def SeqV (N : Nat) (w : World) (fv : Value) (ks : List Ky) : Prop :=
  ∃ gf lb, fv = .func (.func gf) #[] lb ∧ (∀ args w, (callFunc gf args).run Tryd.prog w = .ok (.enter gf args) w) ∧ SeqStopsK Fence.wide 5 Tryd.prog gf lb (fun k => #[kv k]) (Below N) (fun xs => xs = ks) (fun pre => pre <+: ks) ks.length w
theorem SeqV.below {N : Nat} {w w' : World} {fv : Value} {ks : List Ky} (h : SeqV N w fv ks) (hb : Below w.heap.size w w') : SeqV N w' fv ks := by
  obtain ⟨gf, lb, e, eg, hs⟩ := h
  exact ⟨gf, lb, e, eg, fun l J Jx W hW hJ hJx hY h0 => hs l J Jx W (bt hb hW) hJ hJx hY h0⟩

/-- v is a slice that reads as l, whose rows lie below block N. -/
def SlB (N : Nat) {α : Type} (enc : α → List Value) (k : Nat) (w : World) (v : Value) (l : List α) : Prop :=
  ∃ ao L cap, v = .slice ao L cap ∧ l.length = L ∧ L ≤ cap ∧ cap ≤ 9223372036854775807 ∧ RowB N enc k w ao l
theorem Sl.b {α : Type} {enc : α → List Value} {k : Nat} {w : World} {v : Value} {l : List α} (h : Sl enc k w v l) : SlB w.heap.size enc k w v l := h
theorem SlB.below {N : Nat} {α : Type} {enc : α → List Value} {k : Nat} {w w' : World} {v : Value} {l : List α} (h : SlB N enc k w v l) (hb : Below N w w') : SlB N enc k w' v l := by
  obtain ⟨ao, L, cap, e, h1, h2, h3, h4⟩ := h
  exact ⟨ao, L, cap, e, h1, h2, h3, h4.below hb⟩
theorem SlB.sl {N : Nat} {α : Type} {enc : α → List Value} {k : Nat} {w : World} {v : Value} {l : List α} (h : SlB N enc k w v l) (hN : N ≤ w.heap.size) : Sl enc k w v l := by
  obtain ⟨ao, L, cap, e, h1, h2, h3, h4⟩ := h
  exact ⟨ao, L, cap, e, h1, h2, h3, h4.row hN⟩

theorem keysof_n (N : Nat) (v : Value) (l : List Ev) (w : World) (h : SlB N ecs 9 w v l) (hN : N ≤ w.heap.size) :
    Calls Tryd.prog 76 #[v] w fun e w' => ∃ fv, e = .returned fv ∧ SeqV N w' fv (keys l) ∧ Gr w w' := by
  obtain ⟨ao, L, cap, rfl, hL, hc, hm, ht⟩ := h
  have HS : Hid (SeqV N (w.alloc (.cells #[.slice ao L cap] 37)) (.func (.func 84) #[] #[.pointer (some ⟨w.heap.size, 0, none⟩)]) (keys l)) := by
    refine ⟨_, _, rfl, enters_of Tryd.func84 (by kernel_rfl) rfl, fun lp J Jx W hW hJ hJx hY h0 => ?_⟩
    have hB : Below w.heap.size w W := bt (bal (br w) _) hW
    refine keys1_in Fence.wide 5 trivial rfl (by omega) lp w.heap.size N ao L cap l hL (by omega) J Jx W (Nat.le_trans hN hB.size) hJ ?_ ?_ (ht.below (hB.mono hN)) h0
    · intro pre x W1 h1 h2
      exact hY pre x W1 h1 (by simpa using h2)
    · exact ((At.new w #[.slice ao L cap] 37).below hW).one
  have hmf : ∀ (fn : Fn) (first cap : Array Value) (w : World), (Instr.makeFunc fn first cap).run Tryd.prog w = .ok (.func fn first cap) w := fun _ _ _ _ => rfl
  clear ht hL
  go_enter Tryd.func76, Tryd.ntmps76
  go_wp2_with fail
  go_ret
  exact ⟨_, rfl, HS.out, gal (gr w) _⟩
theorem keysof_c (v : Value) (l : List Ev) (w : World) (h : Evs w v l) :
    Calls Tryd.prog 76 #[v] w fun e w' => ∃ fv, e = .returned fv ∧ SeqV w.heap.size w' fv (keys l) ∧ Gr w w' := keysof_n _ v l w h.b (Nat.le_refl _)

end Go.Proofs.YtoogcbniphoaoaaDoor.Ev
