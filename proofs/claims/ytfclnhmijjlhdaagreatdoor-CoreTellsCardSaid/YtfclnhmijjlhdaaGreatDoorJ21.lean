/- Windows of states as lists of frames and states, rising; where a frame stands (place, with the library's search). -/
/- What slices.Delete returns at the list of a window of states; what Get returns (layer 15, core). -/
/- What Move and Cut of layer 4's windows return and leave of the memory. -/
/- Loads and stores of whole states, of pages, and what builds them, each as one step of a walk: folded ahead of go_simp, laid open by facts of the world as it stands. -/
/- What Put and Open of windows of states return and leave of the memory (layer 15, core): a frame that has a state, or the first one behind all. -/
import Derived.Test.YtfclnhmijjlhdaaGreatDoorJ14
import Derived.Test.YtfclnhmijjlhdaaGreatDoorGmRow
import Derived.Test.YtfclnhmijjlhdaaGreatDoorEvAdd
import Derived.Deep.LoopGhost
import Derived.Deep.RegionHeld3
import Derived.Deep.RegionWith
import Derived.Deep.DrawnRows
import Derived.Shelf.Spec.SlicesInsert
namespace Go.Proofs.YtfclnhmijjlhdaaGreatDoor.Sw
open Rg
open Go.RowKit
open Go.Proofs.YtfclnhmijjlhdaaGreatDoor.Gm (St stC zeroS stC_len stC_one wp_load_at wpList_load_at wpList_store_at run_loadVar_at at_row)
open Go.Proofs.YtfclnhmijjlhdaaGreatDoor.Ev (At flat flat_len flat_append flat_at flat_cell flat_take flat_drop bal br bt bd1 bdn)
set_option linter.unusedVariables false
set_option maxRecDepth 100000

/-- a frame and its state, as cells. -/
def frC (p : Int × St) : List Value := .int .i64 p.1 :: stC p.2
theorem frC_len (p : Int × St) : (frC p).length = 61 := rfl
theorem frC_one (p : Int × St) : (frC p).all (·.oneCell') = true := rfl
/-- frames and their states, as cells. -/
def prs (l : List (Int × St)) : List Value := flat frC l
theorem prs_nil : prs [] = [] := rfl
theorem prs_append (l k : List (Int × St)) : prs (l ++ k) = prs l ++ prs k := flat_append _ _ _
theorem prs_len (l : List (Int × St)) : (prs l).length = l.length * 61 := flat_len frC_len l
theorem prs_one (l : List (Int × St)) : ∀ u ∈ prs l, u.oneCell' = true := flat_cell (fun x v hv => List.all_eq_true.1 (frC_one x) v hv) l
theorem prs_take (l : List (Int × St)) (j : Nat) : prs (l.take j) = (prs l).take (j * 61) := flat_take frC_len l j
theorem prs_drop (l : List (Int × St)) (j : Nat) : prs (l.drop j) = (prs l).drop (j * 61) := flat_drop frC_len l j
theorem prs_get (l : List (Int × St)) (j : Nat) (p : Int × St) (h : l[j]? = some p) (i : Nat) (hi : i < 61) : (prs l)[j * 61 + i]? = (frC p)[i]? := by
 obtain ⟨h1, h2⟩ := List.getElem?_eq_some_iff.1 h
 rw [← h2]
 exact flat_at frC_len l j h1 i hi

/-- frames rise. -/
def Rising (l : List (Int × St)) : Prop := l.Pairwise fun a b => a.1 < b.1
/-- how many stand ahead of a frame. -/
def lo (l : List (Int × St)) (f : Int) : Nat := (l.takeWhile fun p => decide (p.1 < f)).length
theorem lo_le (l : List (Int × St)) (f : Int) : lo l f ≤ l.length := by
 unfold lo
 exact List.Sublist.length_le (List.takeWhile_sublist _)
theorem lo_cons_yes {p : Int × St} {l : List (Int × St)} {f : Int} (h : p.1 < f) : lo (p :: l) f = lo l f + 1 := by simp [lo, h]
theorem lo_cons_no {p : Int × St} {l : List (Int × St)} {f : Int} (h : ¬ p.1 < f) : lo (p :: l) f = 0 := by simp [lo, h]
theorem lo_lt : ∀ {l : List (Int × St)} {f : Int}, Rising l → ∀ (j : Nat) (p : Int × St), l[j]? = some p → (j < lo l f ↔ p.1 < f)
 | [], _, _, _, _, h => by simp at h
 | q :: l, f, hr, j, p, h => by
  obtain ⟨h1, h2⟩ := List.pairwise_cons.1 hr
  by_cases hq : q.1 < f
  · rw [lo_cons_yes hq]
    cases j with
    | zero => simp at h; subst h; simp [hq]
    | succ j =>
     have := lo_lt (f := f) h2 j p (by simpa using h)
     omega
  · rw [lo_cons_no hq]
    cases j with
    | zero => simp at h; subst h; simp [hq]
    | succ j =>
     have hm : p ∈ l := List.mem_of_getElem? (by simpa using h)
     have := h1 p hm
     omega
/-- whether a frame has a state. -/
def hasF (l : List (Int × St)) (f : Int) : Bool := match l[lo l f]? with | some p => p.1 == f | none => false
theorem hasF_none {l : List (Int × St)} {f : Int} (h : l[lo l f]? = none) : hasF l f = false := by simp [hasF, h]
theorem hasF_some {l : List (Int × St)} {f : Int} {p : Int × St} (h : l[lo l f]? = some p) : hasF l f = (p.1 == f) := by simp [hasF, h]

/-- a window with the states l. -/
abbrev Win (w : World) (n₀ t e b size : Nat) (first : Int) (ao : Option Addr) (cap : Nat) (l : List (Int × St)) : Prop := Held w n₀ t e 61 b [.int .i64 size, .int .i64 first] ao l.length cap (prs l)

theorem win_cell {w : World} {n₀ e cap : Nat} {ao : Option Addr} {l : List (Int × St)} (h : w.ownsRow n₀ e 61 (.slice ao l.length cap) l.length (prs l)) (j : Nat) (p : Int × St) (hp : l[j]? = some p) :
 ∃ g cur, ao = some ⟨g, 0, none⟩ ∧ g < w.heap.size ∧ w.heap[g]? = some (.cells cur e (0, 0)) ∧ (∀ t v, (frC p)[t]? = some v → cur[j * 61 + t]? = some v) ∧ j * 61 + 61 ≤ cur.size := by
 have hj : j < l.length := (List.getElem?_eq_some_iff.1 hp).1
 rcases h.2 with ⟨h1, h2⟩ | ⟨g, cap', cur, h1, _, hg, hc, _, hs, _⟩
 · omega
 · cases h1
   refine ⟨g, cur, rfl, (Array.getElem?_eq_some_iff.1 hg).1, hg, fun t v hv => ?_, ?_⟩
   · have ht : t < 61 := by have := (List.getElem?_eq_some_iff.1 hv).1; rw [frC_len] at this; exact this
     have := (h.cellAt (j * 61 + t) (by omega)).trans ((prs_get l j p hp t ht).trans hv)
     rw [cell_of_row w g _ _ _ _ hg] at this
     exact this
   · rw [hs]
     have : (j + 1) * 61 ≤ cap * 61 := Nat.mul_le_mul_right _ (by omega)
     omega

section
variable {P : Program}
theorem wpList_load_w {ops : Array Oper} {rest : List Oper} {o : Oper} {a : Act} {w : World} {Q : Exit → Act → World → Prop} (hwd : Region.wanted o (yielded ops a.tmps) = true) (ty : TypeId) (x : Operand) (ho : o.op = .load ty x)
 (g k : Nat) (hx : a.eval x = .pointer (some ⟨g, k, none⟩)) (t : TypeId) (cs : Array Value) (vs : List Value) (fr : Nat × Nat) (d : TypeDesc) (hg : w.heap[g]? = some (.cells cs t fr))
 (hu : P.underlying ty = some d) (hd : (match d with | .struct _ | .array _ _ => true | _ => false) = true) (hi : (P.info? ty).map (·.size) = some vs.length) (hv : ∀ j v, vs[j]? = some v → cs[k + j]? = some v)
 (h : wpList P ops Q rest (a.put o.dst (.agg vs.toArray)) w) : wpList P ops Q (o :: rest) a w :=
 wpList_step fun K hK => by rw [if_pos hwd]; exact wp_load_at ty x ho g k hx t cs vs fr d hg hu hd hi hv (hK _ _ h)
end

theorem place1_c (p : Int × St) (y : Int) (w : World) :
 Calls Tryz.prog 120 #[.agg (frC p).toArray, .int .i64 y] w fun e w' => e = .returned (.int .i64 (Ru.cmpI p.1 y)) ∧ Below w.heap.size w w' := by
 have HN := hid (At.new w (frC p).toArray 132)
 have HB := hid (bal (br w) (.cells (frC p).toArray 132))
 have HF : Hid ((frC p).toArray[0]? = some (.int .i64 p.1)) := hid rfl
 generalize hC : (frC p) = cs at HN HB HF
 go_enter Tryz.func120, Tryz.ntmps120
 go_upto_region 1 with fail
 generalize hw : World.alloc _ _ = w0
 have c0 : w0.cell? ⟨w.heap.size, 0, none⟩ = some (.int .i64 p.1) := by
  rw [← hw, cell_of_row _ _ _ _ _ _ HN.out]; exact HF.out
 have HB0 : Hid (Below w.heap.size w w0) := hid (by rw [← hw]; exact HB.out)
 clear hw HN HB HF
 go_wp2_with (go_at_call 121; ((with_reducible refine (Ru.compare_c _ _ _).mono ?_); rintro e w' ⟨rfl, rfl⟩))
 go_ret
 exact ⟨rfl, HB0.out⟩

set_option maxHeartbeats 1000000 in
theorem search_c (n₀ cap : Nat) (ao : Option Addr) (l : List (Int × St)) (y : Int) (w : World) (h : w.ownsRow n₀ 132 61 (.slice ao l.length cap) l.length (prs l)) (hr : Rising l) (hl : l.length ≤ 4096) :
 Calls Tryz.prog 119 #[.slice ao l.length cap, .int .i64 y, .func (.func 120) #[] #[]] w fun e w' => e = .returned (.tuple #[.int .i64 (lo l y), .bool (hasF l y)]) ∧ Below w.heap.size w w' := by
 have hcell : Hid (∀ W, Below w.heap.size w W → ∀ (j : Nat) (p : Int × St), l[j]? = some p → ∃ g cur, ao = some ⟨g, 0, none⟩ ∧ Hid (W.heap[g]? = some (.cells cur 132 (0, 0))) ∧ Hid (∀ t v, (frC p)[t]? = some v → cur[j * 61 + t]? = some v)) := by
  intro W hW j p hp
  obtain ⟨g, cur, e1, e2, e3, e4, _⟩ := win_cell h j p hp
  exact ⟨g, cur, e1, (hW.block g e2).trans e3, e4⟩
 obtain ⟨L, HL⟩ : ∃ L, Hid (lo l y = L) := ⟨_, rfl⟩
 obtain ⟨N, HN⟩ : ∃ N, Hid (l.length = N) := ⟨_, rfl⟩
 have hLN : L ≤ N := by have := lo_le l y; rw [HL.out, HN.out] at this; exact this
 have hN : N ≤ 4096 := by rw [← HN.out]; exact hl
 have hlt : Hid (∀ (j : Nat) (p : Int × St), l[j]? = some p → (j < L ↔ p.1 < y)) := fun j p hp => by rw [← HL.out]; exact lo_lt hr j p hp
 rw [HL.out, HN.out]
 clear h hr hl
 go_enter Tryz.func119, Tryz.ntmps119
 go_wp2_with fail
 go_loopg [9, 10] N (fun gk a b wr => ∃ i j : Nat, gk = j - i ∧ i ≤ L ∧ L ≤ j ∧ j ≤ N ∧ a = .int .i64 i ∧ b = .int .i64 j ∧ Below w.heap.size w wr)
 case atStart => exact ⟨0, N, by omega, by omega, hLN, by omega, rfl, rfl, Below.refl _ _⟩
 case round =>
  obtain ⟨i, j, hg, hiL, hLj, hjN, rfl, rfl, hB⟩ := hrel
  by_cases hij : i < j
  · obtain ⟨m, hm⟩ : ∃ m, (i + j) / 2 = m := ⟨_, rfl⟩
    have m1 : i ≤ m := by omega
    have m2 : m < j := by omega
    have hmi : ((i : Int) + (j : Int)) / 2 = (m : Int) := by omega
    clear hm
    have m3 : (m : Int) < (N : Int) := by omega
    obtain ⟨p, hp⟩ : ∃ p, l[m]? = some p := ⟨l[m]'(by rw [HN.out]; omega), List.getElem?_eq_getElem _⟩
    obtain ⟨g, cur, rfl, e3, e4⟩ := hcell.out wr hB m p hp
    have hd := hlt.out m p hp
    have HP := hid hp
    clear hp
    by_cases hc : p.1 < y
    · have hmL := hd.2 hc
      have d1 : decide (Ru.cmpI p.1 y < 0) = true := by rw [decide_eq_true_iff]; exact (Ru.cmpI_lt _ _).2 hc
      clear hd hc
      go_wp2_with (first
       | (go_at_call 120; ((with_reducible refine (place1_c p _ _).mono ?_); rintro e w5 ⟨rfl, hB5⟩))
       | (refine wpList_load_at rfl 132 _ rfl g (m * 61) rfl 132 cur (frC p) (0, 0) _ e3.out Tryz.underlying132 rfl (by kernel_rfl) e4.out ?_))
      go_roundg (j - (m + 1))
      case measure => omega
      case rel => exact ⟨m + 1, j, rfl, by omega, hLj, hjN, by go_num, rfl, hB.trans (hB5.mono hB.size)⟩
    · have hmL : L ≤ m := by
       rcases Nat.lt_or_ge m L with h | h
       · exact absurd (hd.1 h) hc
       · exact h
      have d1 : decide (Ru.cmpI p.1 y < 0) = false := by rw [decide_eq_false_iff_not]; exact fun h => hc ((Ru.cmpI_lt _ _).1 h)
      clear hd hc
      go_wp2_with (first
       | (go_at_call 120; ((with_reducible refine (place1_c p _ _).mono ?_); rintro e w5 ⟨rfl, hB5⟩))
       | (refine wpList_load_at rfl 132 _ rfl g (m * 61) rfl 132 cur (frC p) (0, 0) _ e3.out Tryz.underlying132 rfl (by kernel_rfl) e4.out ?_))
      go_roundg (m - i)
      case measure => omega
      case rel => exact ⟨i, m, rfl, hiL, hmL, by omega, rfl, rfl, hB.trans (hB5.mono hB.size)⟩
  · have hij' : i = L := by omega
    have hjj' : j = L := by omega
    subst hij'
    subst hjj'
    by_cases hin : j < N
    · obtain ⟨p, hp⟩ : ∃ p, l[j]? = some p := ⟨l[j]'(by rw [HN.out]; omega), List.getElem?_eq_getElem _⟩
      obtain ⟨g, cur, rfl, e3, e4⟩ := hcell.out wr hB j p hp
      have hF : Hid (hasF l y = (Ru.cmpI p.1 y == 0)) := by
       show _ = _
       rw [hasF_some (by rw [HL.out]; exact hp), Ru.cmpI_eq]
      have d1 : decide (j < N) = true := by rw [decide_eq_true_iff]; exact hin
      have m3 : (j : Int) < (N : Int) := by omega
      clear hp hlt
      go_wp2_with (first
       | (go_at_call 120; ((with_reducible refine (place1_c p _ _).mono ?_); rintro e w5 ⟨rfl, hB5⟩))
       | (refine wpList_load_w (by rfl) 132 _ rfl g (j * 61) rfl 132 cur (frC p) (0, 0) _ e3.out Tryz.underlying132 rfl (by kernel_rfl) e4.out ?_))
      go_ret2
      exact ⟨by rw [hF.out]; rfl, hB.trans (hB5.mono hB.size)⟩
    · have hF : Hid (hasF l y = false) := hasF_none (by rw [HL.out]; exact List.getElem?_eq_none (by rw [HN.out]; omega))
      have d1 : decide (j < N) = false := by rw [decide_eq_false_iff_not]; exact hin
      clear hlt
      go_wp2_with fail
      go_ret2
      exact ⟨by rw [hF.out]; rfl, hB⟩

theorem place_c (i : Int) (n₀ b size cap : Nat) (first : Int) (ao : Option Addr) (l : List (Int × St)) (w : World) (h : Win w n₀ 129 132 b size first ao cap l) (hr : Rising l) (hl : l.length ≤ 4096) :
 Calls Tryz.prog 74 #[.pointer (some ⟨b, 0, none⟩), .int .i64 i] w fun e w' => e = .returned (.tuple #[.int .i64 (lo l i), .bool (hasF l i)]) ∧ Below w.heap.size w w' := by
 have c2 : w.cell? ⟨b, 2, none⟩ = some (.slice ao l.length cap) := by simpa using h.cell 2
 go_enter Tryz.func74, Tryz.ntmps74
 go_wp2_with (go_at_call 119; ((with_reducible refine (search_c n₀ _ _ _ _ _ h.row hr hl).mono ?_); rintro e w1 ⟨rfl, hB⟩))
 go_ret2
 exact ⟨rfl, hB⟩

end Go.Proofs.YtfclnhmijjlhdaaGreatDoor.Sw

namespace Go.Proofs.YtfclnhmijjlhdaaGreatDoor.Sw
open Rg
open Go.RowKit
open Go.Proofs.YtfclnhmijjlhdaaGreatDoor.Gm (St stC zeroS stC_len stC_one wp_load_at wpList_load_at wpList_store_at run_loadVar_at at_row below_row)
open Go.Proofs.YtfclnhmijjlhdaaGreatDoor.Ev (At bal br bt bd1 bdn)
set_option linter.unusedVariables false
set_option maxRecDepth 100000

theorem info_framed : (Tryz.prog.info? 132).map (fun i => (i.zero, i.size, i.bytes)) = some (some (.agg (frC (0, zeroS)).toArray), 61, 360) := by kernel_rfl

def zs2 (n : Nat) : List Value := (Builtin.zeroCells (frC (0, zeroS)).toArray n).toList
theorem zeros_two (n : Nat) : (Builtin.zeroCells (Value.agg (frC (0, zeroS)).toArray).cells n).toList = zs2 n := rfl
theorem zc_len (cs : Array Value) (n : Nat) : (Builtin.zeroCells cs n).toList.length = n * cs.size := by simp [Builtin.zeroCells]
theorem zc_one (cs : Array Value) (h : ∀ v ∈ cs, v.oneCell' = true) (n : Nat) : ∀ v ∈ (Builtin.zeroCells cs n).toList, v.oneCell' = true := by
 intro v hv
 simp only [Builtin.zeroCells, Array.toList_map, List.mem_map] at hv
 obtain ⟨i, hi, rfl⟩ := hv
 have hi2 : i < n * cs.size := by simpa using hi
 have hs : 0 < cs.size := by
  rcases Nat.eq_zero_or_pos cs.size with h0 | h0
  · rw [h0] at hi2; omega
  · exact h0
 have hm := Nat.mod_lt i hs
 rw [getElem!_pos cs (i % cs.size) hm]
 exact h _ (Array.getElem_mem hm)
theorem zs2_len (n : Nat) : (zs2 n).length = n * 61 := zc_len (frC (0, zeroS)).toArray n
theorem zs2_one (n : Nat) : ∀ v ∈ zs2 n, v.oneCell' = true :=
 zc_one (frC (0, zeroS)).toArray (fun v hv => List.all_eq_true.1 (frC_one (0, zeroS)) v (by simpa using hv)) n

set_option maxHeartbeats 1000000 in
theorem delete2_lt (n₀ g n cap i j : Nat) (xs : List Value) (w : World) (h : w.ownsRow n₀ 132 61 (.slice (some ⟨g, 0, none⟩) n cap) n xs) (h1 : ∀ u ∈ xs, u.oneCell' = true) (hij : i < j) (hj : j ≤ n) (hn : n ≤ 4096) :
 Calls Tryz.prog 95 #[.slice (some ⟨g, 0, none⟩) n cap, .int .i64 i, .int .i64 j] w fun e w' => e = .returned (.slice (some ⟨g, 0, none⟩) (i + (n - j)) cap) ∧
  w'.ownsRow n₀ 132 61 (.slice (some ⟨g, 0, none⟩) (i + (n - j)) cap) (i + (n - j)) (xs.take (i * 61) ++ xs.drop (j * 61)) ∧ w.grownBy w' (some g) := by
 obtain ⟨i0, hi0, hz0, hz1, hz2⟩ := info_parts info_framed
 obtain ⟨hcap, hm⟩ : n ≤ cap ∧ cap ≤ 9223372036854775807 := by
  rcases h.2 with ⟨h', _⟩ | ⟨_, _, _, h', _, _, h2, h3, _⟩
  · simp at h'
  · cases h'; exact ⟨h2, by simpa [maxLen] using h3⟩
 obtain ⟨cur, hg⟩ : ∃ cur, w.heap[g]? = some (.cells cur 132 (0, 0)) := by
  rcases h.2 with ⟨h', _⟩ | ⟨_, _, cur, h', _, hh, _⟩
  · simp at h'
  · cases h'; exact ⟨cur, hh⟩
 obtain ⟨news, hnews⟩ : ∃ news, news = xs.drop (j * 61) := ⟨_, rfl⟩
 have hlen : news.length = (n - j) * 61 := by rw [hnews, List.length_drop, h.1]; omega
 obtain ⟨A, hA, hsrc⟩ : ∃ A : Addr, (if cap = j then some (⟨g, 0, none⟩ : Addr) else some ⟨g, j * 61, none⟩) = some A ∧ Hid (∀ t u, news[t]? = some u → w.drew.cell? (A.add t) = some u) := by
  by_cases hc : cap = j
  · refine ⟨⟨g, 0, none⟩, by simp [hc], fun t u hu => ?_⟩
    have h0 : news.length = 0 := by rw [hlen]; omega
    rw [List.length_eq_zero_iff.1 h0] at hu
    simp at hu
  · refine ⟨⟨g, j * 61, none⟩, by simp [hc], fun t u hu => ?_⟩
    rw [Addr.add_lit]
    exact row_from h (j * 61) t u (by rw [← hnews]; exact hu)
 have s1 : Hid (news.length = (n - j) * 61) := hlen
 have s2 : Hid (∀ u ∈ news, u.oneCell' = true) := fun u hu => h1 u (List.mem_of_mem_drop (by rw [← hnews]; exact hu))
 have s3 : Hid (∀ t, t < news.length → (w.drew.cell? ⟨g, 0 + i * 61 + t, none⟩).isSome = true ∧ w.drew.frozen? ⟨g, 0 + i * 61 + t, none⟩ = false) := by
  intro t ht
  exact row_there h (0 + i * 61 + t) (by rw [hlen] at ht; omega)
 obtain ⟨W1, hW1⟩ : ∃ W1, W1 = w.drew.setCells g (0 + i * 61) news := ⟨_, rfl⟩
 have hcl : ∀ ty, (Builtin.clear_ #[127] ty #[.slice (some ⟨g, (i + (n - j)) * 61, none⟩) (n - (i + (n - j))) (cap - (i + (n - j)))]).run Tryz.prog W1 = .ok (.tuple #[]) (W1.setCells g ((i + (n - j)) * 61) (zs2 (n - (i + (n - j))))) := by
  intro ty
  have ht : ∀ k, k < (n - (i + (n - j))) * 61 → (W1.cell? ⟨g, (i + (n - j)) * 61 + k, none⟩).isSome = true ∧ W1.frozen? ⟨g, (i + (n - j)) * 61 + k, none⟩ = false := by
   intro k hk
   rw [hW1]
   exact there_set (w := w.drew) news (0 + i * 61) _ (row_there h _ (by omega)) cur hg
  refine run_clear_k W1 _ _ ty (.agg (frC (0, zeroS)).toArray) _ Tryz.underlying127 Tryz.zeroValue132 g ((i + (n - j)) * 61) _ _ (by omega) (zeros_two _) (zs2_one _) ?_ ?_
  · intro k hk; exact (ht k (by rw [zs2_len] at hk; exact hk)).1
  · intro k hk; exact (ht k (by rw [zs2_len] at hk; exact hk)).2
 have hW : Hid (W1 = w.drew.setCells g (0 + i * 61) news) := hW1
 have hN : Hid (news = xs.drop (j * 61)) := hnews
 have hO := hid (del_own h (Nat.le_of_lt hij) hj 1 (zs2 (n - (i + (n - j)))) (by rw [zs2_len]; exact congrArg (fun x : Nat => x * 61) (by omega)))
 have hic : i ≤ cap := by omega
 have hjc : j ≤ cap := by omega
 clear hW1 hnews hlen hg h h1
 go_enter Tryz.func95, Tryz.ntmps95
 go_wp2_with fail
 go_region_law (refine step_append_room rfl (.tmp 22) (.tmp 25) 127 rfl 132 i0 61 Tryz.underlying127 hi0 hz1 g 0 i cap (by simp [Act.eval, Act.put]) A (n - j) (cap - j) news (by simp [Act.eval, Act.put]) s1.out hsrc.out s2.out (by omega) s3.out ?_; rw [← hW.out])
 go_wp2
 go_ret
 have := hO.out
 rw [hW.out, hN.out, Nat.zero_add]
 exact ⟨rfl, this⟩

theorem delete2_c (n₀ n cap i j : Nat) (ao : Option Addr) (xs : List Value) (w : World) (h : w.ownsRow n₀ 132 61 (.slice ao n cap) n xs) (h1 : ∀ u ∈ xs, u.oneCell' = true) (hij : i ≤ j) (hj : j ≤ n) (hn : n ≤ 4096) :
 Calls Tryz.prog 95 #[.slice ao n cap, .int .i64 i, .int .i64 j] w fun e w' => e = .returned (.slice ao (i + (n - j)) cap) ∧
  w'.ownsRow n₀ 132 61 (.slice ao (i + (n - j)) cap) (i + (n - j)) (xs.take (i * 61) ++ xs.drop (j * 61)) ∧ w.grownBy w' (Value.ownBlock (.slice ao n cap)) := by
 obtain ⟨hcap, hm⟩ : n ≤ cap ∧ cap ≤ 9223372036854775807 := by
  rcases h.2 with ⟨h', h0⟩ | ⟨_, _, _, h', _, _, h2, h3, _⟩
  · cases h'; exact ⟨by omega, by omega⟩
  · cases h'; exact ⟨h2, by simpa [maxLen] using h3⟩
 by_cases heq : i = j
 · subst heq
   have e1 : i + (n - i) = n := by omega
   rw [e1, List.take_append_drop]
   have hw : Hid (w.ownsRow n₀ 132 61 (.slice ao n cap) n xs) := h
   have h0 : Calls Tryz.prog 95 #[.slice ao n cap, .int .i64 i, .int .i64 i] w fun e w' => e = .returned (.slice ao n cap) ∧ w = w' := by
    rcases h.2 with ⟨h', rfl⟩ | ⟨g, cap', cur, h', _⟩
    · cases h'
      obtain rfl : i = 0 := by omega
      clear h e1 hw
      go_enter Tryz.func95, Tryz.ntmps95
      go_wp2
      go_ret
      exact ⟨rfl, rfl⟩
    · cases h'
      clear h e1 hw
      go_enter Tryz.func95, Tryz.ntmps95
      go_wp2
      all_goals (go_ret; exact ⟨rfl, rfl⟩)
   refine h0.mono ?_
   rintro e w' ⟨rfl, rfl⟩
   exact ⟨rfl, h, ⟨rfl, rfl, rfl, Nat.le_refl _, fun _ _ _ => rfl⟩⟩
 · rcases h.2 with ⟨h', rfl⟩ | ⟨g, cap', cur, h', _⟩
   · omega
   · cases h'
     exact delete2_lt n₀ g n cap i j xs w h h1 (by omega) hj hn

/-- a frame's state, or none. -/
def thingS (l : List (Int × St)) (f : Int) : St := match l[lo l f]? with | some p => if p.1 == f then p.2 else zeroS | none => zeroS
section
variable {P : Program}
theorem results_st {fn : Func} {p u : Tmp} {ty : TypeId} (h : fn.results = #[.cell p ty, .tmp u]) (tmps : Array Value) (w : World) (g : Nat) (t : TypeId) (cs : Array Value) (fr : Nat × Nat) (d : TypeDesc)
 (hp : tmps.getD p undef = .pointer (some ⟨g, 0, none⟩)) (hg : w.heap[g]? = some (.cells cs t fr))
 (hu : P.underlying ty = some d) (hd : (match d with | .struct _ | .array _ _ => true | _ => false) = true) (hi : (P.info? ty).map (·.size) = some cs.size) :
 (results fn tmps).run P w = .ok (.tuple #[.agg cs, tmps.getD u undef]) w := by
 have hp' : tmps[p]?.getD undef = .pointer (some ⟨g, 0, none⟩) := by simpa using hp
 simp [results, h, hp', asAddr, run_loadVar_row w g t ty cs fr d hg hu hd hi]
end

set_option maxHeartbeats 1000000 in
theorem get_c (i : Int) (n₀ b size cap : Nat) (first : Int) (ao : Option Addr) (l : List (Int × St)) (w : World) (h : Win w n₀ 129 132 b size first ao cap l) (hr : Rising l) (hl : l.length ≤ 4096) :
 Calls Tryz.prog 67 #[.pointer (some ⟨b, 0, none⟩), .int .i64 i] w fun e w' => e = .returned (.tuple #[.agg (stC (thingS l i)).toArray, .bool (hasF l i)]) ∧ Below w.heap.size w w' := by
 have HN := hid (At.new w (stC zeroS).toArray 65)
 have HB := hid (bal (br w) (.cells (stC zeroS).toArray 65))
 by_cases hh : hasF l i = true
 · obtain ⟨p, hp⟩ : ∃ p, l[lo l i]? = some p := by
    cases hx : l[lo l i]? with
    | none => rw [hasF_none hx] at hh; cases hh
    | some p => exact ⟨p, rfl⟩
   have hpi : (p.1 == i) = true := by rw [← hasF_some hp]; exact hh
   have ht : thingS l i = p.2 := by simp [thingS, hp, hpi]
   have HH := hid hh
   rw [ht, hh]
   have hlt : lo l i < l.length := (List.getElem?_eq_some_iff.1 hp).1
   clear hh ht hpi
   go_enter Tryz.func67, Tryz.ntmps67
   go_upto_region 1 with fail
   generalize hw : World.alloc _ _ = w0
   have HN0 : Hid (At w0 w.heap.size (stC zeroS).toArray 65) := hid (by rw [← hw]; exact HN.out)
   have HB0 : Hid (Below w.heap.size w w0) := hid (by rw [← hw]; exact HB.out)
   have h0 : Win w0 n₀ 129 132 b size first ao cap l := h.old HB0.out
   clear hw HN HB
   go_wp2_with fail
   refine (place_c i n₀ b size cap first ao l w0 h0 hr hl).mono ?_
   rintro e w1 ⟨rfl, hB⟩
   have h1 := h0.old hB
   have HN1 := hid (HN0.out.below hB)
   have HB1 := hid (bt HB0.out hB)
   have c2 : w1.cell? ⟨b, 2, none⟩ = some (.slice ao l.length cap) := by simpa using h1.cell 2
   obtain ⟨g, cur, rfl, _, e3, e4, _⟩ := win_cell h1.row _ p hp
   have E3 := hid e3
   have E4 : Hid (∀ t v, (stC p.2)[t]? = some v → cur[lo l i * 61 + 1 + t]? = some v) := hid (fun t v hv => by
    have := e4 (t + 1) v (by simpa [frC] using hv)
    rw [show lo l i * 61 + 1 + t = lo l i * 61 + (t + 1) by omega]; exact this)
   rw [HH.out]
   generalize lo l i = k at *
   clear hp e3 e4
   go_wp2_with (first
    | (refine wpList_load_at rfl 65 _ rfl g (k * 61 + 1) (by simp [Act.eval]) 132 cur (stC p.2) (0, 0) _ E3.out Tryz.underlying65 rfl (by kernel_rfl) E4.out ?_)
    | (refine wpList_store_at rfl 65 _ _ rfl w.heap.size 0 (stC p.2) rfl rfl 65 _ HN1.out (by kernel_rfl) (by show 60 ≤ 60; decide) rfl ?_))
   have HS : Hid (At (w1.setRow w.heap.size (stC p.2).toArray) w.heap.size (stC p.2).toArray 65) := hid (at_row HN1.out _)
   have HB2 : Hid (Below w.heap.size w (w1.setRow w.heap.size (stC p.2).toArray)) := hid (below_row HB1.out (Nat.le_refl _) _)
   refine bodyPost_ret (results_st rfl _ _ w.heap.size 65 (stC p.2).toArray (0, 0) _ rfl HS.out Tryz.underlying65 rfl (by kernel_rfl)) rfl ?_
   exact ⟨rfl, HB2.out⟩
 · have hh' : hasF l i = false := by simpa using hh
   have ht : thingS l i = zeroS := by
    unfold thingS
    cases hx : l[lo l i]? with
    | none => rfl
    | some p => rw [hasF_some hx] at hh'; simp [hh']
   have HH := hid hh'
   rw [ht, hh']
   clear hh hh' ht
   go_enter Tryz.func67, Tryz.ntmps67
   go_upto_region 1 with fail
   generalize hw : World.alloc _ _ = w0
   have HN0 : Hid (At w0 w.heap.size (stC zeroS).toArray 65) := hid (by rw [← hw]; exact HN.out)
   have HB0 : Hid (Below w.heap.size w w0) := hid (by rw [← hw]; exact HB.out)
   have h0 : Win w0 n₀ 129 132 b size first ao cap l := h.old HB0.out
   clear hw HN HB
   go_wp2_with fail
   refine (place_c i n₀ b size cap first ao l w0 h0 hr hl).mono ?_
   rintro e w1 ⟨rfl, hB⟩
   have HN1 := hid (HN0.out.below hB)
   have HB1 := hid (bt HB0.out hB)
   rw [HH.out]
   have HM := hid (At.new w1 (stC zeroS).toArray 65)
   have HM1 := hid (HN1.out.below (bal (br w1) (.cells (stC zeroS).toArray 65)))
   have HB2 := hid (bt HB1.out (bal (br w1) (.cells (stC zeroS).toArray 65)))
   go_upto_region 4 with fail
   generalize hw : World.alloc _ _ = w2
   have HM2 : Hid (At w2 w1.heap.size (stC zeroS).toArray 65) := hid (by rw [← hw]; exact HM.out)
   have HN2 : Hid (At w2 w.heap.size (stC zeroS).toArray 65) := hid (by rw [← hw]; exact HM1.out)
   have HB3 : Hid (Below w.heap.size w w2) := hid (by rw [← hw]; exact HB2.out)
   clear hw HM HM1 HB2
   generalize w1.heap.size = B at HM2 ⊢
   go_wp2_with (first
    | (refine wpList_load_at rfl 65 _ rfl B 0 rfl 65 (stC zeroS).toArray (stC zeroS) (0, 0) _ HM2.out Tryz.underlying65 rfl (by kernel_rfl) (fun j v hv => by rw [Nat.zero_add]; simpa using hv) ?_)
    | (refine wpList_store_at rfl 65 _ _ rfl w.heap.size 0 (stC zeroS) rfl rfl 65 _ HN2.out (by kernel_rfl) (by show 60 ≤ 60; decide) rfl ?_))
   have HS : Hid (At (w2.setRow w.heap.size (stC zeroS).toArray) w.heap.size (stC zeroS).toArray 65) := hid (at_row HN2.out _)
   have HB4 : Hid (Below w.heap.size w (w2.setRow w.heap.size (stC zeroS).toArray)) := hid (below_row HB3.out (Nat.le_refl _) _)
   refine bodyPost_ret (results_st rfl _ _ w.heap.size 65 (stC zeroS).toArray (0, 0) _ rfl HS.out Tryz.underlying65 rfl (by kernel_rfl)) rfl ?_
   exact ⟨rfl, HB4.out⟩

end Go.Proofs.YtfclnhmijjlhdaaGreatDoor.Sw

namespace Go.Proofs.YtfclnhmijjlhdaaGreatDoor.Sw
open Rg
open Go.RowKit
open Go.Proofs.YtfclnhmijjlhdaaGreatDoor.Gm (St stC zeroS)
set_option linter.unusedVariables false
set_option maxRecDepth 100000
set_option maxRecDepth 100000
attribute [local go_sem ↓] Go.wp_at_zero Go.wp_at_succ

/-- the first frame's field is stored. -/
theorem win_first {w : World} {n₀ t e b size : Nat} {first : Int} {ao : Option Addr} {cap n : Nat} {xs : List Value} (h : Held w n₀ t e 61 b [.int .i64 size, .int .i64 first] ao n cap xs) (hte : t ≠ e) (f : Int) :
 Held (w.setCell ⟨b, 1, none⟩ (.int .i64 f)) n₀ t e 61 b [.int .i64 size, .int .i64 f] ao n cap xs ∧ Keeps (Foot b ao) w (w.setCell ⟨b, 1, none⟩ (.int .i64 f)) := by
 refine ⟨⟨?_, h.ge, ?_⟩, (Keeps.refl _ w).setCell (fun _ => .inl rfl) _⟩
 · exact heap_setCell_same w b 1 _ t (.int .i64 f) h.block
 · refine ownsRow_setCell_other h.row ?_ _
   intro e'
   cases ao with
   | none => simp [Value.ownBlock] at e'
   | some a => exact h.apart hte a rfl (by simpa [Value.ownBlock] using e')

/-- a list's cells turned in place, then the field stored. -/
theorem cut_step {w w1 : World} {n₀ t e b cap : Nat} {cs : List Value} {ao : Option Addr} {n m : Nat} {xs ys : List Value} (h : Held w n₀ t e 61 b cs ao n cap xs) (hte : t ≠ e)
 (hown : w1.ownsRow n₀ e 61 (.slice ao m cap) m ys) (hg : w.grownBy w1 (Value.ownBlock (.slice ao n cap))) :
 Keeps (Foot b ao) w w1 ∧ w1.heap[b]? = w.heap[b]? := by
 refine ⟨(Keeps.refl _ w).grown hg ?_, hg.block b h.lt ?_⟩
 · intro k hk _
   cases ao with
   | none => simp [Value.ownBlock] at hk
   | some a => exact .inr ⟨a, rfl, by simpa [Value.ownBlock] using hk.symm⟩
 · intro e'
   cases ao with
   | none => simp [Value.ownBlock] at e'
   | some a => exact h.apart hte a rfl (by simpa [Value.ownBlock] using e'.symm)

theorem keepsOld {S : Nat → Prop} {a b c : World} (h : Below a.heap.size a b) (k : Keeps S b c) : Keeps S a c := (Keeps.ofOld h S).trans k (fun _ _ e => e)

theorem move_no (i : Int) (n₀ b size cap : Nat) (first : Int) (ao : Option Addr) (l : List (Int × St)) (w : World) (h : Win w n₀ 129 132 b size first ao cap l) (hi : i < first ∨ 1073741824 < i) :
 Calls Tryz.prog 58 #[.pointer (some ⟨b, 0, none⟩), .int .i64 i] w fun e w' => e = .returned (.int .i64 0) ∧ w = w' := by
 have c1 : w.cell? ⟨b, 1, none⟩ = some (.int .i64 first) := by simpa using h.cell 1
 by_cases h1 : i < first
 · have d1 : decide (i < first) = true := by simpa using h1
   go_enter Tryz.func58, Tryz.ntmps58
   go_wp2_with fail
   go_ret
   exact ⟨rfl, rfl⟩
 · have d1 : decide (i < first) = false := by simpa using h1
   have d2 : decide (1073741824 < i) = true := by simp; omega
   go_enter Tryz.func58, Tryz.ntmps58
   go_wp2_with fail
   go_ret
   exact ⟨rfl, rfl⟩

theorem move_c (i : Int) (n₀ b size cap : Nat) (first : Int) (ao : Option Addr) (l : List (Int × St)) (w : World) (h : Win w n₀ 129 132 b size first ao cap l) (hr : Rising l) (hl : l.length ≤ 4096) (hi : first ≤ i ∧ i ≤ 1073741824) :
 Calls Tryz.prog 58 #[.pointer (some ⟨b, 0, none⟩), .int .i64 i] w fun e w' => e = .returned (.int .i64 (lo l i)) ∧
  Win w' n₀ 129 132 b size i ao cap (l.drop (lo l i)) ∧ Keeps (Foot b ao) w w' := by
 have hlo0 := lo_le l i
 obtain ⟨k, K⟩ : ∃ k, Hid (lo l i = k) := ⟨_, rfl⟩
 have hlo : k ≤ l.length := by rw [← K.out]; exact hlo0
 rw [K.out]
 clear hlo0
 have c1 : w.cell? ⟨b, 1, none⟩ = some (.int .i64 first) := by simpa using h.cell 1
 have f1 : w.frozen? ⟨b, 1, none⟩ = false := h.frozen 1
 have d1 : decide (i < first) = false := by simp; omega
 have d2 : decide (1073741824 < i) = false := by simp; omega
 obtain ⟨h0, hk0⟩ := win_first h (by decide) i
 go_enter Tryz.func58, Tryz.ntmps58
 go_wp2_with fail
 refine (place_c i n₀ b size cap i ao l _ h0 hr hl).mono ?_
 rintro e w1 ⟨rfl, hB⟩
 rw [K.out]
 have h1 := h0.old hB
 have hd := delete2_c n₀ l.length cap 0 k ao (prs l) w1 h1.row (prs_one l) (Nat.zero_le _) hlo hl
 rw [Nat.zero_mul, List.take_zero, List.nil_append, ← prs_drop, Nat.zero_add] at hd
 have Hd : Hid (Calls Tryz.prog 95 #[.slice ao l.length cap, .int .i64 0, .int .i64 k] w1 fun e w' => e = .returned (.slice ao (l.length - k) cap) ∧
  w'.ownsRow n₀ 132 61 (.slice ao (l.length - k) cap) (l.length - k) (prs (l.drop k)) ∧ w1.grownBy w' (Value.ownBlock (.slice ao l.length cap))) := hd
 have E1 : Hid ((l.drop k).length = l.length - k) := List.length_drop
 have c2 : w1.cell? ⟨b, 2, none⟩ = some (.slice ao l.length cap) := by simpa using h1.cell 2
 clear hd h hr c1 f1 h0
 go_wp2_with (go_at_call 95; ((with_reducible refine Hd.out.mono ?_); rintro e w2 ⟨rfl, hown, hg⟩; obtain ⟨hk, hblk⟩ := cut_step h1 (by decide) hown hg; have c3 : w2.cell? ⟨b, 2, none⟩ = some (.slice ao l.length cap) := (World.cell?_of_block hblk).trans c2; have f3 : w2.frozen? ⟨b, 2, none⟩ = false := (World.frozen?_of_block hblk).trans (h1.frozen 2)))
 go_ret
 obtain ⟨hh, hk2⟩ := h1.stored (by decide) hk hblk hown
 refine ⟨rfl, ?_, hk0.trans (keepsOld hB hk2) (fun _ _ e => e)⟩
 show Held _ _ _ _ _ _ _ _ _ _ _
 rw [E1.out]
 exact hh

/-- how many of its own a frame has: 1 or 0. -/
def own1 (l : List (Int × St)) (f : Int) : Nat := if hasF l f = true then 1 else 0
/-- a window's list with a frame's thing. -/
def putL (l : List (Int × St)) (f : Int) (x : St) : List (Int × St) := l.take (lo l f) ++ (f, x) :: l.drop (lo l f + own1 l f)
theorem putL_yes {l : List (Int × St)} {f : Int} {x : St} {p : Int × St} (hp : l[lo l f]? = some p) (h : hasF l f = true) : putL l f x = l.take (lo l f) ++ (p.1, x) :: l.drop (lo l f + 1) := by
 have e : p.1 = f := by rw [hasF_some hp] at h; simpa using h
 unfold putL own1
 rw [if_pos h, e]

end Go.Proofs.YtfclnhmijjlhdaaGreatDoor.Sw

namespace Go.Proofs.YtfclnhmijjlhdaaGreatDoor.Sw
open Rg
open Go.RowKit
open Go.Proofs.YtfclnhmijjlhdaaGreatDoor.Gm (St stC zeroS stC_len stC_one run_loadVar_at run_storeVar_at)
open Go.Proofs.YtfclnhmijjlhdaaGreatDoor.Ev (At)
set_option linter.unusedVariables false
set_option maxRecDepth 100000

noncomputable def LD (t : TypeId) (v : Value) : Sem Value := Instr.loadAt t v
noncomputable def SD (t : TypeId) (p v : Value) : Sem Unit := Instr.storeAt t p v
noncomputable def BD (t : TypeId) (ps : Array (Nat × Value)) : Sem Value := Instr.build t ps
noncomputable def BS (t : TypeId) (n : Nat) (ps : Array (Nat × Value)) : Sem Value := Instr.buildSlice t n ps
noncomputable def AL (t : TypeId) : Sem Value := Instr.alloc t true (.tuple #[])
theorem fold_ld1 (v : Value) : Instr.loadAt 65 v = LD 65 v := rfl
theorem fold_sd1 (p v : Value) : Instr.storeAt 65 p v = SD 65 p v := rfl
theorem fold_bd1 (ps : Array (Nat × Value)) : Instr.build 132 ps = BD 132 ps := rfl
theorem fold_bs1 (n : Nat) (ps : Array (Nat × Value)) : Instr.buildSlice 127 n ps = BS 127 n ps := rfl
theorem fold_al1 : Instr.alloc 65 true (.tuple #[]) = AL 65 := rfl
theorem alloc_st (W : World) : (AL 65).run Tryz.prog W = .ok (.pointer (some ⟨W.heap.size, 0, none⟩)) (W.alloc (.cells (stC zeroS).toArray 65)) := by kernel_rfl
theorem bd_frame (f : Int) (s : St) (W : World) : (BD 132 #[(0, .int .i64 f), (1, .agg (stC s).toArray)]).run Tryz.prog W = .ok (.agg (frC (f, s)).toArray) W := by kernel_rfl
theorem bs_frame (p : Int × St) (W : World) : (BS 127 1 #[(0, .agg (frC p).toArray)]).run Tryz.prog W = .ok (.slice (some ⟨W.heap.size, 0, none⟩) 1 1) (W.alloc (.cells (frC p).toArray 132)) := by kernel_rfl
/-- a whole state lies in a block from a cell on. -/
theorem ld_at {W : World} {g k : Nat} {t : TypeId} {cs : Array Value} {vs : List Value} {fr : Nat × Nat} (hg : W.heap[g]? = some (.cells cs t fr)) (hl : vs.length = 60) (hv : ∀ j v, vs[j]? = some v → cs[k + j]? = some v) :
 (LD 65 (.pointer (some ⟨g, k, none⟩))).run Tryz.prog W = .ok (.agg vs.toArray) W := by
 have h := run_loadVar_at (P := Tryz.prog) W g k t 65 cs vs fr _ hg Tryz.underlying65 rfl (by rw [hl]; kernel_rfl) hv
 unfold LD
 simp only [Instr.loadAt, Instr.sureAddr, Sem.run_bind, Sem.run_pure, Result.andThen_ok, h]
theorem ld_row {W : World} {g : Nat} {t : TypeId} {vs : List Value} (hg : At W g vs.toArray t) (hl : vs.length = 60) : (LD 65 (.pointer (some ⟨g, 0, none⟩))).run Tryz.prog W = .ok (.agg vs.toArray) W :=
 ld_at hg hl (fun j v hv => by rw [Nat.zero_add]; simpa using hv)
theorem sd_at {W : World} {g k : Nat} {t : TypeId} {old : Array Value} {vs : List Value} (hg : W.heap[g]? = some (.cells old t (0, 0))) (hl : vs.length = 60) (ho : k + 60 ≤ old.size) (h1 : vs.all (·.oneCell') = true) :
 (SD 65 (.pointer (some ⟨g, k, none⟩)) (.agg vs.toArray)).run Tryz.prog W = .ok () (W.setRow g (old.toList.take k ++ vs ++ old.toList.drop (k + 60)).toArray) := by
 have h := run_storeVar_at (P := Tryz.prog) W g k t 65 old vs hg (by rw [hl]; kernel_rfl) (by rw [hl]; exact ho) h1
 rw [hl] at h
 unfold SD
 simp only [Instr.storeAt, Instr.sureAddr, Sem.run_bind, Sem.run_pure, Result.andThen_ok, h]
theorem sd_row {W : World} {g : Nat} {t : TypeId} {old : Array Value} {vs : List Value} (hg : At W g old t) (ho : old.size = 60) (hl : vs.length = 60) (h1 : vs.all (·.oneCell') = true) :
 (SD 65 (.pointer (some ⟨g, 0, none⟩)) (.agg vs.toArray)).run Tryz.prog W = .ok () (W.setRow g vs.toArray) := by
 have := sd_at (k := 0) hg hl (by omega) h1
 rw [this, List.take_zero, List.nil_append, List.drop_eq_nil_of_le (by simp; omega), List.append_nil]
end Go.Proofs.YtfclnhmijjlhdaaGreatDoor.Sw

namespace Go.Proofs.YtfclnhmijjlhdaaGreatDoor.Sw
open Rg
open Go.RowKit
open Go.Proofs.YtfclnhmijjlhdaaGreatDoor.Gm (St stC zeroS stC_len stC_one wp_load_at wpList_load_at wpList_store_at run_loadVar_at at_row below_row)
open Go.Proofs.YtfclnhmijjlhdaaGreatDoor.Ev (At bal br bt bd1 bdn)
set_option linter.unusedVariables false
set_option maxRecDepth 100000
attribute [local go_sem ↓] fold_ld1 fold_sd1 fold_bd1 fold_bs1
attribute [local go_sem] bd_frame bs_frame

/-- one new element lies in a block of its own. -/
def NewAt (w : World) (vb : Nat) (p : Int × St) : Prop := w.heap[vb]? = some (.cells (frC p).toArray 132 (0, 0))
theorem NewAt.cells {w : World} {vb : Nat} {p : Int × St} (h : NewAt w vb p) : ∀ j u, (frC p)[j]? = some u → w.cell? ((⟨vb, 0, none⟩ : Addr).add j) = some u := by
 intro j u hu
 rw [Addr.add_lit, cell_of_row w vb _ _ _ _ h, Nat.zero_add]
 simpa using hu

set_option maxRecDepth 100000 in
theorem insert_end (n₀ n cap vb : Nat) (ao : Option Addr) (p : Int × St) (xs : List Value) (w : World) (h : w.ownsRow n₀ 132 61 (.slice ao n cap) n xs) (hv : NewAt w vb p) (hn : n ≤ 4096) (hb : n₀ ≤ w.heap.size) :
 Calls Tryz.prog 75 #[.slice ao n cap, .int .i64 n, .slice (some ⟨vb, 0, none⟩) 1 1] w fun e w' => ∃ ao' cap', e = .returned (.slice ao' (n + 1) cap') ∧
  w'.ownsRow n₀ 132 61 (.slice ao' (n + 1) cap') (n + 1) (xs ++ (frC p)) ∧ w.grownBy w' (Value.ownBlock (.slice ao n cap)) ∧ Near ao ao' w.heap.size := by
 obtain ⟨i0, hi, hz0, hz1, hz2⟩ := info_parts info_framed
 have hcap : n ≤ cap ∧ cap ≤ 9223372036854775807 := by
  rcases h.2 with ⟨h', h0⟩ | ⟨_, _, _, h', _, _, h2, h3, _⟩
  · cases h'; exact ⟨by omega, by omega⟩
  · cases h'; exact ⟨h2, by simpa [maxLen] using h3⟩
 obtain ⟨hc1, hc2⟩ := hcap
 have HV := hid hv
 have HO := hid h
 have fin : ∀ (v' : Value) (w' : World), w'.ownsRow n₀ 132 61 v' (n + 1) (xs ++ (frC p)) → (v'.ownBlock = Value.ownBlock (.slice ao n cap) ∨ v'.ownBlock = some w.heap.size) → ∃ ao' cap', v' = .slice ao' (n + 1) cap' ∧ Near ao ao' w.heap.size := by
  intro v' w' ho ha
  obtain ⟨ao', cap', rfl⟩ := row_form ho
  refine ⟨ao', cap', rfl, ?_⟩
  rintro a' rfl
  rcases ha with h1 | h1
  · cases ao with
    | none => simp [Value.ownBlock] at h1
    | some a => exact .inl ⟨a, rfl, by simpa [Value.ownBlock] using h1.symm⟩
  · refine .inr ?_
    simp [Value.ownBlock] at h1
    omega
 have FIN := hid fin
 clear fin
 rcases h.2 with ⟨h', rfl⟩ | ⟨g, cap', cur, h', _⟩
 all_goals
  cases h'
  clear h hv
  go_enter Tryz.func75, Tryz.ntmps75
  go_wp2_with (at_builtin; refine wpList_append_own_at _ rfl (.tmp 23) (.tmp 24) 127 rfl n₀ 132 i0 (.agg (frC (0, zeroS)).toArray) 61 360 Tryz.underlying127 hi hz0 hz1 hz2 rfl (by decide) _ _ _ rfl HO.out ⟨vb, 0, none⟩ 1 1 (frC p) rfl rfl HV.out.cells (fun v hv => List.all_eq_true.1 (frC_one p) v hv) (by unfold maxLen; omega) (by omega) hb ?_; intro v1 w1 hown1 hg1 _ hat1)
  all_goals
   go_ret
   obtain ⟨ao', cap'', rfl, hnear⟩ := FIN.out v1 w1 hown1 hat1
   exact ⟨ao', cap'', rfl, hown1, hg1, hnear⟩

theorem ins_keeps {w w1 : World} {n₀ t e b cap : Nat} {cs : List Value} {ao : Option Addr} {n : Nat} {xs : List Value} (h : Held w n₀ t e 61 b cs ao n cap xs) (hte : t ≠ e) (hg : w.grownBy w1 (Value.ownBlock (.slice ao n cap))) :
 Keeps (Foot b ao) w w1 ∧ w1.heap[b]? = w.heap[b]? := by
 refine ⟨(Keeps.refl _ w).grown hg ?_, hg.block b h.lt ?_⟩
 · intro k hk _
   cases ao with
   | none => simp [Value.ownBlock] at hk
   | some a => exact .inr ⟨a, rfl, by simpa [Value.ownBlock] using hk.symm⟩
 · intro e'
   cases ao with
   | none => simp [Value.ownBlock] at e'
   | some a => exact h.apart hte a rfl (by simpa [Value.ownBlock] using e'.symm)

section
variable {P : Program}
theorem setRow_grown (w : World) (g : Nat) (cs : Array Value) : w.grownBy (w.setRow g cs) (some g) := by
 refine ⟨rfl, rfl, rfl, by simp [World.setRow], fun k hk hne => ?_⟩
 unfold World.setRow
 simp only [Array.getElem?_modify]
 rw [if_neg]
 rintro rfl
 exact hne rfl
end
theorem splice_prs (A B : List (Int × St)) (p : Int × St) (x : St) (R : List Value) :
 (prs (A ++ p :: B) ++ R).take (A.length * 61 + 1) ++ stC x ++ (prs (A ++ p :: B) ++ R).drop (A.length * 61 + 1 + (stC x).length) = prs (A ++ (p.1, x) :: B) ++ R := by
 have hA : (prs A).length = A.length * 61 := prs_len A
 have e : ∀ q : Int × St, prs (A ++ q :: B) ++ R = prs A ++ (.int .i64 q.1 :: (stC q.2 ++ (prs B ++ R))) := by
  intro q
  rw [prs_append, show prs (q :: B) = frC q ++ prs B from rfl, List.append_assoc, List.append_assoc]
  rfl
 rw [e, e, stC_len, List.take_append, List.drop_append, hA, List.take_of_length_le (by omega), List.drop_eq_nil_of_le (by omega), show A.length * 61 + 1 - A.length * 61 = 1 by omega, show A.length * 61 + 1 + 60 - A.length * 61 = 60 + 1 by omega,
  List.drop_succ_cons, List.drop_append, List.drop_eq_nil_of_le (by rw [stC_len]; omega), stC_len]
 simp
theorem row_put {w : World} {n₀ e g cap : Nat} {l : List (Int × St)} {cur : Array Value} (h : w.ownsRow n₀ e 61 (.slice (some ⟨g, 0, none⟩) l.length cap) l.length (prs l)) (hg : w.heap[g]? = some (.cells cur e (0, 0))) {k : Nat} {p : Int × St} (hp : l[k]? = some p) (x : St) :
 (w.setRow g (cur.toList.take (k * 61 + 1) ++ stC x ++ cur.toList.drop (k * 61 + 1 + (stC x).length)).toArray).ownsRow n₀ e 61 (.slice (some ⟨g, 0, none⟩) l.length cap) l.length (prs (l.take k ++ (p.1, x) :: l.drop (k + 1))) := by
 obtain ⟨hk, hpk⟩ := List.getElem?_eq_some_iff.1 hp
 have el : l = l.take k ++ p :: l.drop (k + 1) := by
  have := (List.take_append_drop k l).symm
  rw [List.drop_eq_getElem_cons hk, hpk] at this
  exact this
 have hA : (l.take k).length = k := by rw [List.length_take]; omega
 rcases h.2 with ⟨h1, _⟩ | ⟨g', cap', cur', h1, h2, h3, h4, h5, h6, h7⟩
 · cases h1
 · cases h1
   obtain rfl : cur = cur' := by have := hg.symm.trans h3; simpa using this
   have eC : cur.toList = prs (l.take k ++ p :: l.drop (k + 1)) ++ cur.toList.drop (l.length * 61) := by
    rw [← el, ← h7]; exact (List.take_append_drop _ _).symm
   have hS := splice_prs (l.take k) (l.drop (k + 1)) p x (cur.toList.drop (l.length * 61))
   rw [hA, ← eC] at hS
   have hl' : (prs (l.take k ++ (p.1, x) :: l.drop (k + 1))).length = l.length * 61 := by
    rw [prs_len]; congr 1; simp; omega
   refine ⟨hl', .inr ⟨g, cap, _, rfl, h2, setRow_heap w g cur _ e (0, 0) hg, h4, h5, ?_, ?_⟩⟩
   · have hsz : cur.toList.length = cap * 61 := by simpa using h6
     rw [hS, List.size_toArray, List.length_append, hl', List.length_drop, hsz]
     have : l.length * 61 ≤ cap * 61 := Nat.mul_le_mul_right _ h4
     omega
   · rw [hS]
     show List.take _ (_ ++ _) = _
     rw [List.take_left' hl']

set_option maxHeartbeats 1000000 in
theorem put_yes (i : Int) (x : St) (n₀ b size cap : Nat) (first : Int) (ao : Option Addr) (l : List (Int × St)) (w : World) (h : Win w n₀ 129 132 b size first ao cap l) (hr : Rising l) (hl : l.length ≤ 4096) (hn : n₀ ≤ w.heap.size)
 (h0 : 0 ≤ first) (hi1 : first ≤ i) (h63 : i ≤ 1073741824) (hf : i - first < size) (hh : hasF l i = true) :
 Calls Tryz.prog 32 #[.pointer (some ⟨b, 0, none⟩), .int .i64 i, .agg (stC x).toArray] w fun e w' => e = .returned (.int .i64 0) ∧
  ∃ ao' cap', Win w' n₀ 129 132 b size first ao' cap' (putL l i x) ∧ Near ao ao' w.heap.size ∧ Keeps (Foot b ao) w w' := by
 have HN := hid (At.new w (stC x).toArray 65)
 have HB := hid (bal (br w) (.cells (stC x).toArray 65))
 have hw : IntKind.i64.wrap (i - first) = i - first := IntWalk.i64_in _ (by omega)
 have d1 : decide ((size : Int) ≤ i - first) = false := by simp; omega
 have d2 : decide (1073741824 < i) = false := by simp; omega
 obtain ⟨p, hp⟩ : ∃ p, l[lo l i]? = some p := by
  cases hx : l[lo l i]? with
  | none => rw [hasF_none hx] at hh; cases hh
  | some p => exact ⟨p, rfl⟩
 rw [putL_yes hp hh]
 have hlt : lo l i < l.length := (List.getElem?_eq_some_iff.1 hp).1
 have HH := hid hh
 obtain ⟨k, K⟩ : ∃ k, Hid (lo l i = k) := ⟨_, rfl⟩
 rw [K.out] at hp hlt ⊢
 clear hh
 generalize hC : stC x = xs at HN HB
 go_enter Tryz.func32, Tryz.ntmps32
 go_upto_region 1 with fail
 generalize hwa : World.alloc _ _ = w0
 have HN0 : Hid (At w0 w.heap.size xs.toArray 65) := hid (by rw [← hwa]; exact HN.out)
 have HB0 : Hid (Below w.heap.size w w0) := hid (by rw [← hwa]; exact HB.out)
 have hm : Win w0 n₀ 129 132 b size first ao cap l := h.old HB0.out
 have c0 : w0.cell? ⟨b, 0, none⟩ = some (.int .i64 size) := by simpa using hm.cell 0
 have c1 : w0.cell? ⟨b, 1, none⟩ = some (.int .i64 first) := by simpa using hm.cell 1
 clear hwa HN HB
 go_wp2_with fail
 go_quiet (fail)
 go_wp2_with fail
 refine (place_c i n₀ b size cap first ao l _ (hm.drewN nq) hr hl).mono ?_
 rintro e w1 ⟨rfl, hB⟩
 rw [K.out, HH.out]
 have h1 := ((hm.drewN nq).old hB).old (bd1 (br w1))
 have HN1 := hid (((HN0.out.below (bdn (br w0) nq)).below hB).below (bd1 (br w1)))
 have HB1 := hid (bt (bt (bt HB0.out (bdn (br w0) nq)) hB) (bd1 (br w1)))
 have c2 : w1.cell? ⟨b, 2, none⟩ = some (.slice ao l.length cap) := by simpa using h1.cell 2
 obtain ⟨g, cur, rfl, hgl, e3, _, e5⟩ := win_cell h1.row _ p hp
 have m3 : (k : Int) < (l.length : Int) := by omega
 have hrow := row_put h1.row e3 hp x
 have hgb : g ≠ b := h1.apart (by decide) _ rfl
 rw [hC, show xs.length = 60 by rw [← hC]; rfl] at hrow
 obtain ⟨C, eC⟩ : ∃ C, C = (cur.toList.take (k * 61 + 1) ++ xs ++ cur.toList.drop (k * 61 + 1 + 60)).toArray := ⟨_, rfl⟩
 have hsd0 := sd_at (W := w1.drew) (vs := xs) e3 (by rw [← hC]; rfl) (by omega) (by rw [← hC]; exact stC_one x)
 rw [← eC] at hrow hsd0
 have hld : (LD 65 (.pointer (some ⟨w.heap.size, 0, none⟩))).run Tryz.prog w1.drew = .ok (.agg xs.toArray) w1.drew := ld_row HN1.out (by rw [← hC]; rfl)
 have hsd : (SD 65 (.pointer (some ⟨g, k * 61 + 1, none⟩)) (.agg xs.toArray)).run Tryz.prog w1.drew = .ok () (w1.drew.setRow g C) := hsd0
 have HR := hid hrow
 clear hp c0 c1 e3 hrow eC hsd0
 go_wp2_with fail
 go_region
 go_wp2_with fail
 go_ret
 have o2 := setRow_grown w1.drew g C
 refine ⟨rfl, _, cap, ⟨?_, h.ge, ?_⟩, Near.refl _ _, keepsOld HB1.out ((Keeps.refl _ w1.drew).grown o2 (fun j e _ => .inr ⟨_, rfl, by simpa using e.symm⟩))⟩
 · have hlen : (l.take k ++ (p.1, x) :: l.drop (k + 1)).length = l.length := by simp; omega
   rw [hlen]
   exact (o2.block b h1.lt (by simpa using hgb.symm)).trans h1.block
 · have hlen : (l.take k ++ (p.1, x) :: l.drop (k + 1)).length = l.length := by simp; omega
   rw [hlen]
   exact HR.out

set_option maxHeartbeats 6000000 in
theorem put_no (i : Int) (x : St) (n₀ b size cap : Nat) (first : Int) (ao : Option Addr) (l : List (Int × St)) (w : World) (h : Win w n₀ 129 132 b size first ao cap l) (hr : Rising l) (hl : l.length ≤ 4096) (hn : n₀ ≤ w.heap.size)
 (h0 : 0 ≤ first) (hi1 : first ≤ i) (h63 : i ≤ 1073741824) (hf : i - first < size) (hh : hasF l i = false) (hend : lo l i = l.length) :
 Calls Tryz.prog 32 #[.pointer (some ⟨b, 0, none⟩), .int .i64 i, .agg (stC x).toArray] w fun e w' => e = .returned (.int .i64 0) ∧
  ∃ ao' cap', Win w' n₀ 129 132 b size first ao' cap' (l ++ [(i, x)]) ∧ Near ao ao' w.heap.size ∧ Keeps (Foot b ao) w w' := by
 have HN := hid (At.new w (stC x).toArray 65)
 have HB := hid (bal (br w) (.cells (stC x).toArray 65))
 have hw : IntKind.i64.wrap (i - first) = i - first := IntWalk.i64_in _ (by omega)
 have d1 : decide ((size : Int) ≤ i - first) = false := by simp; omega
 have d2 : decide (1073741824 < i) = false := by simp; omega
 have HH := hid hh
 have K := hid hend
 clear hh hend
 go_enter Tryz.func32, Tryz.ntmps32
 go_upto_region 1 with fail
 generalize hwa : World.alloc _ _ = w0
 have HN0 : Hid (At w0 w.heap.size (stC x).toArray 65) := hid (by rw [← hwa]; exact HN.out)
 have HB0 : Hid (Below w.heap.size w w0) := hid (by rw [← hwa]; exact HB.out)
 have hm : Win w0 n₀ 129 132 b size first ao cap l := h.old HB0.out
 have c0 : w0.cell? ⟨b, 0, none⟩ = some (.int .i64 size) := by simpa using hm.cell 0
 have c1 : w0.cell? ⟨b, 1, none⟩ = some (.int .i64 first) := by simpa using hm.cell 1
 clear hwa HN HB
 go_wp2_with fail
 go_quiet (fail)
 go_wp2_with fail
 refine (place_c i n₀ b size cap first ao l _ (hm.drewN nq) hr hl).mono ?_
 rintro e w1 ⟨rfl, hB⟩
 rw [K.out, HH.out]
 have h1 := ((hm.drewN nq).old hB).old (bd1 (br w1))
 have HN1 := hid (((HN0.out.below (bdn (br w0) nq)).below hB).below (bd1 (br w1)))
 have HB1 := hid (bt (bt (bt HB0.out (bdn (br w0) nq)) hB) (bd1 (br w1)))
 have c2 : w1.cell? ⟨b, 2, none⟩ = some (.slice ao l.length cap) := by simpa using h1.cell 2
 have hld : (LD 65 (.pointer (some ⟨w.heap.size, 0, none⟩))).run Tryz.prog w1.drew = .ok (.agg (stC x).toArray) w1.drew := ld_row HN1.out rfl
 obtain ⟨W2, hW2⟩ : ∃ W2, W2 = (w1.alloc (.cells (frC (i, x)).toArray 132)).drew := ⟨_, rfl⟩
 have hB2 : Below w1.drew.heap.size w1.drew W2 := by rw [hW2]; exact (Below.refl _ w1.drew).alloc (Nat.le_refl _) _
 have h2 := h1.old hB2
 have hi := insert_end n₀ l.length cap w1.heap.size ao (i, x) (prs l) W2 h2.row (by rw [hW2]; exact heap_alloc_new w1.drew _) hl (by have := HB1.out.size; have := hB2.size; omega)
 have hi2 := hid hi
 have cA : W2.cell? ⟨b, 2, none⟩ = some (.slice ao l.length cap) := by simpa using h2.cell 2
 have E2 := hid hW2
 rw [hW2] at hi2 cA
 have cB : (w1.alloc (.cells (frC (i, x)).toArray 132)).cell? ⟨b, 2, none⟩ = some (.slice ao l.length cap) := cA
 clear cA
 clear c0 c1 hi hW2
 go_wp2_with fail
 refine wp_region_noPanic ?_
 refine wp_region_held_drew (S := (fun _ => True)) (by kernel_rfl) trivial (fun hHeld => ?_)
 refine tkA 0 47 ?_
 simp only [pa, pu2, pu3]
 refine tkA 1 48 ?_
 simp only [pa, pu2, pu3]
 refine tkA 2 49 ?_
 simp only [pa, pu2, pu3]
 refine tkA 3 50 ?_
 simp only [pa, pu2, pu3]
 refine tkA 5 52 ?_
 simp only [pa, pu2, pu3]
 refine tkA 6 53 ?_
 simp only [pa, pu2, pu3]
 refine wpAnyH_ready (rs := [4, 7]) (by kernel_rfl) (by simp) ?_
 refine AllReadyH.cons (i := 4) rfl (fun K hKK => ?_) (AllReadyH.cons (i := 7) rfl (fun K hKK => ?_) AllReadyH.nil)
 · go_simp
   (try dsimp only)
   refine hKK.out _ _ trivial (fun hHeld => ?_)
   clear hKK K
   (try simp only [Act.put, pu1, pu2, pu3])
   refine onA 7 (fun K hKK => ?_)
   go_simp
   (try dsimp only)
   refine hKK.out _ _ trivial (fun hHeld => ?_)
   clear hKK K
   (try simp only [Act.put, pu1, pu2, pu3])
   refine tkA 8 55 ?_
   simp only [pa, pu2, pu3]
   refine onA 9 (fun K hKK => ?_)
   go_simp
   (try dsimp only)
   refine hKK.out _ _ trivial (fun hHeld => ?_)
   clear hKK K
   (try simp only [Act.put, pu1, pu2, pu3])
   refine onA 10 (fun K hKK => ?_)
   go_simp
   refine hi2.out.mono ?_
   rintro e w3 ⟨ao', cap', rfl, hown, hg, hnear⟩
   rw [← E2.out] at hg hnear
   have hk3 : Keeps (Foot b ao) W2 w3 ∧ w3.heap[b]? = W2.heap[b]? := ins_keeps h2 (by decide) hg
   have f3 : w3.frozen? ⟨b, 2, none⟩ = false := (World.frozen?_of_block hk3.2).trans (h2.frozen 2)
   have c3 : w3.cell? ⟨b, 2, none⟩ = some (.slice ao l.length cap) := (World.cell?_of_block hk3.2).trans (by simpa using h2.cell 2)
   (try dsimp only)
   refine hKK.out _ _ trivial (fun hHeld => ?_)
   clear hKK K
   (try simp only [Act.put, pu1, pu2, pu3])
   refine tkA 11 58 ?_
   simp only [pa, pu2, pu3]
   refine tkA 12 59 ?_
   simp only [pa, pu2, pu3]
   refine onA 13 (fun K hKK => ?_)
   go_simp
   (try dsimp only)
   refine hKK.out _ _ trivial (fun hHeld => ?_)
   clear hKK K
   (try simp only [Act.put, pu1, pu2, pu3])
   refine wpAnyH_done (by kernel_rfl) ?_ _
   refine NoPanic.normal ?_
   go_wp2_with fail
   go_ret
   obtain ⟨hh, hk2⟩ := h2.stored (by decide) hk3.1 hk3.2 hown
   refine ⟨rfl, ao', cap', ?_, ?_, keepsOld HB1.out (keepsOld hB2 hk2)⟩
   · have e1 : (l ++ [(i, x)]).length = l.length + 1 := by simp
     have e2 : prs (l ++ [(i, x)]) = prs l ++ frC (i, x) := by rw [prs_append]; simp [prs, Ev.flat]
     show Held _ _ _ _ _ _ _ _ _ _ _
     rw [e1, e2]
     exact hh
   · intro a' ha'
     rcases hnear a' ha' with h5 | h5
     · exact .inl h5
     · exact .inr (by have := HB1.out.size; have := hB2.size; omega)
 · go_simp
   (try dsimp only)
   refine hKK.out _ _ trivial (fun hHeld => ?_)
   clear hKK K
   (try simp only [Act.put, pu1, pu2, pu3])
   refine tkA 8 55 ?_
   simp only [pa, pu2, pu3]
   refine wpAnyH_ready (rs := [4, 9]) (by kernel_rfl) (by simp) ?_
   refine AllReadyH.cons (i := 4) rfl (fun K hKK => ?_) (AllReadyH.cons (i := 9) rfl (fun K hKK => ?_) AllReadyH.nil)
   · go_simp
     (try dsimp only)
     refine hKK.out _ _ trivial (fun hHeld => ?_)
     clear hKK K
     (try simp only [Act.put, pu1, pu2, pu3])
     refine onA 9 (fun K hKK => ?_)
     go_simp
     (try dsimp only)
     refine hKK.out _ _ trivial (fun hHeld => ?_)
     clear hKK K
     (try simp only [Act.put, pu1, pu2, pu3])
     refine onA 10 (fun K hKK => ?_)
     go_simp
     refine hi2.out.mono ?_
     rintro e w3 ⟨ao', cap', rfl, hown, hg, hnear⟩
     rw [← E2.out] at hg hnear
     have hk3 : Keeps (Foot b ao) W2 w3 ∧ w3.heap[b]? = W2.heap[b]? := ins_keeps h2 (by decide) hg
     have f3 : w3.frozen? ⟨b, 2, none⟩ = false := (World.frozen?_of_block hk3.2).trans (h2.frozen 2)
     have c3 : w3.cell? ⟨b, 2, none⟩ = some (.slice ao l.length cap) := (World.cell?_of_block hk3.2).trans (by simpa using h2.cell 2)
     (try dsimp only)
     refine hKK.out _ _ trivial (fun hHeld => ?_)
     clear hKK K
     (try simp only [Act.put, pu1, pu2, pu3])
     refine tkA 11 58 ?_
     simp only [pa, pu2, pu3]
     refine tkA 12 59 ?_
     simp only [pa, pu2, pu3]
     refine onA 13 (fun K hKK => ?_)
     go_simp
     (try dsimp only)
     refine hKK.out _ _ trivial (fun hHeld => ?_)
     clear hKK K
     (try simp only [Act.put, pu1, pu2, pu3])
     refine wpAnyH_done (by kernel_rfl) ?_ _
     refine NoPanic.normal ?_
     go_wp2_with fail
     go_ret
     obtain ⟨hh, hk2⟩ := h2.stored (by decide) hk3.1 hk3.2 hown
     refine ⟨rfl, ao', cap', ?_, ?_, keepsOld HB1.out (keepsOld hB2 hk2)⟩
     · have e1 : (l ++ [(i, x)]).length = l.length + 1 := by simp
       have e2 : prs (l ++ [(i, x)]) = prs l ++ frC (i, x) := by rw [prs_append]; simp [prs, Ev.flat]
       show Held _ _ _ _ _ _ _ _ _ _ _
       rw [e1, e2]
       exact hh
     · intro a' ha'
       rcases hnear a' ha' with h5 | h5
       · exact .inl h5
       · exact .inr (by have := HB1.out.size; have := hB2.size; omega)
   · go_simp
     (try dsimp only)
     refine hKK.out _ _ trivial (fun hHeld => ?_)
     clear hKK K
     (try simp only [Act.put, pu1, pu2, pu3])
     refine onA 4 (fun K hKK => ?_)
     go_simp
     (try dsimp only)
     refine hKK.out _ _ trivial (fun hHeld => ?_)
     clear hKK K
     (try simp only [Act.put, pu1, pu2, pu3])
     refine onA 10 (fun K hKK => ?_)
     go_simp
     refine hi2.out.mono ?_
     rintro e w3 ⟨ao', cap', rfl, hown, hg, hnear⟩
     rw [← E2.out] at hg hnear
     have hk3 : Keeps (Foot b ao) W2 w3 ∧ w3.heap[b]? = W2.heap[b]? := ins_keeps h2 (by decide) hg
     have f3 : w3.frozen? ⟨b, 2, none⟩ = false := (World.frozen?_of_block hk3.2).trans (h2.frozen 2)
     have c3 : w3.cell? ⟨b, 2, none⟩ = some (.slice ao l.length cap) := (World.cell?_of_block hk3.2).trans (by simpa using h2.cell 2)
     (try dsimp only)
     refine hKK.out _ _ trivial (fun hHeld => ?_)
     clear hKK K
     (try simp only [Act.put, pu1, pu2, pu3])
     refine tkA 11 58 ?_
     simp only [pa, pu2, pu3]
     refine tkA 12 59 ?_
     simp only [pa, pu2, pu3]
     refine onA 13 (fun K hKK => ?_)
     go_simp
     (try dsimp only)
     refine hKK.out _ _ trivial (fun hHeld => ?_)
     clear hKK K
     (try simp only [Act.put, pu1, pu2, pu3])
     refine wpAnyH_done (by kernel_rfl) ?_ _
     refine NoPanic.normal ?_
     go_wp2_with fail
     go_ret
     obtain ⟨hh, hk2⟩ := h2.stored (by decide) hk3.1 hk3.2 hown
     refine ⟨rfl, ao', cap', ?_, ?_, keepsOld HB1.out (keepsOld hB2 hk2)⟩
     · have e1 : (l ++ [(i, x)]).length = l.length + 1 := by simp
       have e2 : prs (l ++ [(i, x)]) = prs l ++ frC (i, x) := by rw [prs_append]; simp [prs, Ev.flat]
       show Held _ _ _ _ _ _ _ _ _ _ _
       rw [e1, e2]
       exact hh
     · intro a' ha'
       rcases hnear a' ha' with h5 | h5
       · exact .inl h5
       · exact .inr (by have := HB1.out.size; have := hB2.size; omega)

theorem open_c (size : Nat) (first : Int) (n₀ : Nat) (hs : 1 ≤ size ∧ size ≤ 4096) (hf : 0 ≤ first ∧ first ≤ 1073741824) (w : World) (hn : n₀ ≤ w.heap.size) :
 Calls Tryz.prog 31 #[.int .i64 size, .int .i64 first] w fun e w' => e = .returned (.tuple #[.pointer (some ⟨w.heap.size, 0, none⟩), .int .i64 0]) ∧ Win w' n₀ 129 132 w.heap.size size first none 0 [] ∧ Below w.heap.size w w' := by
 have s := hid (Ru.size_yes size (by omega))
 have d1 : decide (first < 0) = false := by simp; omega
 have d2 : decide (1073741824 < first) = false := by simp; omega
 have hN : Win (w.alloc (.cells #[.int .i64 size, .int .i64 first, .slice none 0 0] 129)) n₀ 129 132 w.heap.size size first none 0 [] := Held.new w n₀ 129 132 61 [.int .i64 size, .int .i64 first] hn
 go_enter Tryz.func31, Tryz.ntmps31
 go_wp2_with (go_at_call 73; ((with_reducible refine (Ru.isSize_c _ _).mono ?_); rintro e w' ⟨rfl, rfl⟩; rw [s.out]))
 go_ret2
 exact ⟨rfl, hN, (Below.refl _ w).alloc (Nat.le_refl _) _⟩

end Go.Proofs.YtfclnhmijjlhdaaGreatDoor.Sw
