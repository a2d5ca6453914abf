/- Events are copied and put in order (layer 11, event). -/
import Derived.Test.YtfkbkfaiplhehaaEvN
import Derived.Shelf.SlSortCmp.WholeK
import Derived.Shelf.SlSortCmp.NoneTotal
import Derived.Shelf.SlGeneric
import Derived.Shelf.SlLaysF0
import Derived.Lib.SliceRun
namespace Go.Proofs
namespace Ytfkbkfaiplhehaa.Ev
open Go.RowKit Go.Shelf Go.Lib
open Go.Sort hiding Below
set_option linter.unusedVariables false

def sortEv_ren : Go.Shelf.Ren := ⟨fun | 6 => 32 | 15 => 58 | 14 => 57 | 28 => 77 | 29 => 78 | 20 => 69 | 21 => 70 | 22 => 71 | 23 => 72 | 24 => 73 | 25 => 74 | 26 => 75 | 27 => 76 | 46 => 83 | 47 => 84 | 48 => 85 | 49 => 86 | 50 => 87 | 57 => 89 | n => n, fun | 22 => 22 | 24 => 31 | 25 => 61 | 3 => 3 | 39 => 99 | 0 => 0 | 53 => 114 | 55 => 96 | 4 => 4 | 46 => 108 | 45 => 107 | 50 => 76 | 5 => 5 | 9 => 9 | 66 => 119 | 70 => 123 | 76 => 126 | 77 => 127 | n => n, fun | n => n⟩
theorem sortEv : Go.Proofs.SlLaysF0.n6 Try.prog sortEv_ren := {
  mixed := by kernel_rfl
  f6 := ⟨Try.f32.name, by decide, Try.func32.trans (congrArg some (by kernel_rfl))⟩
  f14 := ⟨Try.f57.name, by decide, Try.func57.trans (congrArg some (by kernel_rfl))⟩
  f15 := Try.func58.trans (congrArg some (by kernel_rfl))
  f20 := ⟨Try.f69.name, by decide, Try.func69.trans (congrArg some (by kernel_rfl))⟩
  f21 := ⟨Try.f70.name, by decide, Try.func70.trans (congrArg some (by kernel_rfl))⟩
  f22 := ⟨Try.f71.name, by decide, Try.func71.trans (congrArg some (by kernel_rfl))⟩
  f23 := ⟨Try.f72.name, by decide, Try.func72.trans (congrArg some (by kernel_rfl))⟩
  f24 := ⟨Try.f73.name, by decide, Try.func73.trans (congrArg some (by kernel_rfl))⟩
  f25 := ⟨Try.f74.name, by decide, Try.func74.trans (congrArg some (by kernel_rfl))⟩
  f26 := ⟨Try.f75.name, by decide, Try.func75.trans (congrArg some (by kernel_rfl))⟩
  f27 := ⟨Try.f76.name, by decide, Try.func76.trans (congrArg some (by kernel_rfl))⟩
  f28 := Try.func77.trans (congrArg some (by kernel_rfl))
  f29 := Try.func78.trans (congrArg some (by kernel_rfl))
  f46 := ⟨Try.f83.name, by decide, Try.func83.trans (congrArg some (by kernel_rfl))⟩
  f47 := Try.func84.trans (congrArg some (by kernel_rfl))
  f48 := Try.func85.trans (congrArg some (by kernel_rfl))
  f49 := ⟨Try.f86.name, by decide, Try.func86.trans (congrArg some (by kernel_rfl))⟩
  f50 := ⟨Try.f87.name, by decide, Try.func87.trans (congrArg some (by kernel_rfl))⟩
  f57 := ⟨Try.f89.name, by decide, Try.func89.trans (congrArg some (by kernel_rfl))⟩
  t0 := Try.underlying0
  a0 := Try.isAgg0
  z0 := Try.sizeOf0
  v0 := Try.zeroValue0
  t3 := Try.underlying3
  a3 := Try.isAgg3
  z3 := Try.sizeOf3
  v3 := Try.zeroValue3
  t4 := Try.underlying4
  a4 := Try.isAgg4
  z4 := Try.sizeOf4
  v4 := Try.zeroValue4
  t5 := Try.underlying5
  a5 := Try.isAgg5
  z5 := Try.sizeOf5
  v5 := Try.zeroValue5
  t9 := Try.underlying9
  a9 := Try.isAgg9
  z9 := Try.sizeOf9
  v9 := Try.zeroValue9
  t22 := Try.underlying22
  a22 := Try.isAgg22
  z22 := Try.sizeOf22
  v22 := Try.zeroValue22
  t25 := Try.underlying61
  a25 := Try.isAgg61
  z25 := Try.sizeOf61
  v25 := Try.zeroValue61
  t39 := Try.underlying99
  a39 := Try.isAgg99
  z39 := Try.sizeOf99
  v39 := Try.zeroValue99
  t45 := Try.underlying107
  a45 := Try.isAgg107
  z45 := Try.sizeOf107
  v45 := Try.zeroValue107
  t46 := Try.underlying108
  a46 := Try.isAgg108
  z46 := Try.sizeOf108
  v46 := Try.zeroValue108
  t50 := Try.underlying76
  a50 := Try.isAgg76
  z50 := Try.sizeOf76
  v50 := Try.zeroValue76
  t53 := Try.underlying114
  a53 := Try.isAgg114
  z53 := Try.sizeOf114
  v53 := Try.zeroValue114
  t55 := Try.underlying96
  a55 := Try.isAgg96
  z55 := Try.sizeOf96
  v55 := Try.zeroValue96
  t66 := Try.underlying119
  a66 := Try.isAgg119
  z66 := Try.sizeOf119
  v66 := Try.zeroValue119
  t70 := Try.underlying123
  a70 := Try.isAgg123
  z70 := Try.sizeOf123
  v70 := Try.zeroValue123
  t76 := Try.underlying126
  a76 := Try.isAgg126
  z76 := Try.sizeOf126
  v76 := Try.zeroValue126
  t77 := Try.underlying127
  a77 := Try.isAgg127
  z77 := Try.sizeOf127
  v77 := Try.zeroValue127 }

theorem info_event : (Try.prog.info? 31).map (fun i => (i.zero, i.size, i.bytes)) = some (some (ev zeroE), 9, 72) := by kernel_rfl
theorem info_key : (Try.prog.info? 24).map (fun i => (i.zero, i.size, i.bytes)) = some (some (kv zeroK), 4, 32) := by kernel_rfl

theorem row_flat {α : Type} {enc : α → List Value} {k : Nat} (hk : ∀ x, (enc x).length = k) (h0 : 0 < k) {w : World} {ad : Addr} {l : List α} (h : Row enc k w (some ad) l) : ∀ j u, (flat enc l)[j]? = some u → w.cell? (ad.add j) = some u := by
  intro j u hj
  have hlt : j < l.length * k := by rw [← flat_len hk]; exact (List.getElem?_eq_some_iff.1 hj).1
  have hl : 0 < l.length := by
    rcases Nat.eq_zero_or_pos l.length with e | e
    · rw [e] at hlt; simp at hlt
    · exact e
  obtain ⟨b, o, e, hb, hc⟩ := h hl
  injection e with e
  subst e
  have hq : j / k < l.length := Nat.div_lt_of_lt_mul (by rw [Nat.mul_comm]; exact hlt)
  have hm : j % k < k := Nat.mod_lt _ h0
  have hjj : j / k * k + j % k = j := by rw [Nat.mul_comm]; exact Nat.div_add_mod j k
  have h1 := flat_at hk l (j / k) hq (j % k) hm
  rw [hjj, hj] at h1
  have h2 := hc (j / k) hq (j % k) u h1.symm
  rw [Nat.add_assoc, hjj] at h2
  rw [Addr.add_lit]
  exact h2

set_option maxRecDepth 100000 in
set_option maxHeartbeats 400000 in
theorem clone_c (v : Value) (l : List Ev) (w : World) (h : Evs w v l) (hl : l.length ≤ 4096) :
    Calls Try.prog 31 #[v] w fun e w' => ∃ v', e = .returned v' ∧ w'.ownsRow w.heap.size 31 9 v' l.length (flat ecs l) ∧ Below w.heap.size w w' := by
  obtain ⟨ao, L, cap, rfl, hL, hc, hm, ht⟩ := h
  have q22 : ∀ (w : World) (a : Option Addr) (n c n' c' : Nat), (binOp .eql 22 (.slice a n c) (.slice none n' c')).run Try.prog w = .ok (.bool a.isNone) w := fun w a n c n' c' => Lib.run_eql_slice_nil w _ _ a n c n' c' Try.underlying22
  obtain ⟨i0, hi, hz0, hz1, hz2⟩ := info_parts info_event
  cases ao with
  | none =>
    have h0 : l.length = 0 := by
      rcases Nat.eq_zero_or_pos l.length with e | e
      · exact e
      · obtain ⟨b, o, e, _⟩ := ht e
        cases e
    have hnil : l = [] := List.length_eq_zero_iff.1 h0
    subst hnil
    clear ht
    go_enter Try.func31, Try.ntmps31
    go_wp2_with fail
    go_ret
    exact ⟨_, rfl, World.ownsRow_nil _ _ _ _, br w⟩
  | some ad =>
    have HF := hid (row_flat (k := 9) (fun _ => rfl) (by decide) (ht.below (bal (br w) (.cells #[] 31))))
    have HL := hid hL
    subst hL
    clear ht
    go_enter Try.func31, Try.ntmps31
    have hfl : (flat ecs l).length = l.length * 9 := flat_len (enc := ecs) (fun _ => rfl) l
    have HFL := hid hfl
    clear hfl
    go_wp2_with (at_builtin; refine wpList_append_own_at _ rfl _ _ 22 rfl w.heap.size 31 i0 (ev zeroE) 9 72 Try.underlying22 hi hz0 hz1 hz2 rfl (by decide) _ _ _ rfl (World.ownsRow_made w #[] 0 (Nat.le_refl _) (Nat.zero_le _) (by simp)) ad l.length cap (flat ecs l) rfl HFL.out HF.out (flat_cell ecs_one l) (by unfold maxLen; omega) (by omega) (by simp) ?_; intro v1 w1 hown1 hg1 _ _)
    go_ret
    refine ⟨_, rfl, by simpa using hown1, ?_⟩
    exact (bal (br w) _).grown hg1 (by simp) (fun k e => by cases e; exact Nat.le_refl _)

theorem ltE (x y : Ev) : ltOf (fun x y : Ev => cmpK x.key y.key) x y = decide (ltK x.key y.key) := by
  unfold ltOf
  rw [Bool.eq_iff_iff]
  simp only [decide_eq_true_eq]
  exact cmpK_lt _ _
theorem swoE : SWO (ltOf fun x y : Ev => cmpK x.key y.key) where
  irrefl x := by rw [ltE]; simpa using ltK_irr _
  trans x y z h1 h2 := by rw [ltE] at *; simp at *; exact ltK_trans h1 h2
  ntrans x y z h1 h2 := by rw [ltE] at *; simp at *; exact leK_trans h2 h1
theorem cmpLaysE (blk off size : Nat) (w : World) : CmpLays Try.prog 33 #[] ecs 9 (fun x y => cmpK x.key y.key) blk off size w :=
  fun _ _ _ _ x y => sort1_c x y _

theorem holdsE {w : World} {g cap : Nat} {cur : Array Value} {l : List Ev} (hg : w.heap[g]? = some (.cells cur 31 (0, 0))) (ht : cur.toList.take (l.length * 9) = flat ecs l) : HoldsK ecs 9 w g 0 l.toArray := by
  intro j hj
  rw [size_flatK] at hj
  have hj' : j < l.length * 9 := by simpa using hj
  refine ⟨?_, frozen_of_row w g _ _ _ hg⟩
  rw [cell_of_row w g _ _ _ _ hg, Nat.zero_add, get_flatK _ _ _ _ hj]
  have hq : j / 9 < l.length := by omega
  have h1 := flat_at (enc := ecs) (k := 9) (fun _ => rfl) l (j / 9) hq (j % 9) (by omega)
  rw [show j / 9 * 9 + j % 9 = j by omega, ← ht, List.getElem?_take, if_pos hj', Array.getElem?_toList] at h1
  rw [h1]
  have hi : j % 9 < (ecs l[j / 9]).length := by show j % 9 < 9; omega
  rw [List.getElem?_eq_getElem hi]
  simp [hq, List.getElem!_eq_getElem?_getD, List.getElem?_eq_getElem hi]
theorem evs_of_holds {w : World} {g cap : Nat} {d : Array Ev} (h : HoldsK ecs 9 w g 0 d) (hg : g < w.heap.size) (hc : d.size ≤ cap) (hm : cap ≤ 9223372036854775807) : Evs w (.slice (some ⟨g, 0, none⟩) d.size cap) d.toList := by
  refine ⟨_, _, cap, rfl, by simp, hc, hm, fun _ => ⟨g, 0, rfl, hg, fun j hj i v hv => ?_⟩⟩
  have hj' : j < d.size := by simpa using hj
  have hi : i < 9 := (List.getElem?_eq_some_iff.1 hv).1
  have := (h (j * 9 + i) (by rw [size_flatK]; omega)).1
  rw [get_flatK _ _ _ _ (by omega), show (j * 9 + i) / 9 = j by omega, show (j * 9 + i) % 9 = i by omega] at this
  rw [Nat.add_assoc, this]
  congr 1
  simp only [id]
  rw [getElem!_pos d j hj', List.getElem!_eq_getElem?_getD]
  simp at hv
  simp [hv]
theorem below_sort {w : World} {B g n : Nat} {d : Array Ev} {os : Array Obj} (hB : B ≤ g) (hw : B ≤ w.heap.size) : Below B w (sortWorldK ecs 9 w g 0 n d os) := by
  unfold sortWorldK putRowK putRow mapBlock grow Sort.ahead
  refine ⟨rfl, rfl, rfl, by simp, fun k hk => ?_⟩
  have hkw : k < w.heap.size := by omega
  simp only
  rw [Array.getElem?_append_left (by simpa using hkw), Array.getElem?_modify, if_neg (by omega)]

/-- the events l are held in a world that the list v was sorted in. -/
theorem sortfunc_c (v : Value) (l : List Ev) (B : Nat) (w : World) (h : w.ownsRow B 31 9 v l.length (flat ecs l)) (hB : B ≤ w.heap.size) (hl : l.length ≤ 4096) :
    Calls Try.prog 32 #[v, .func (.func 33) #[] #[]] w fun e w' => e = .returned (.tuple #[]) ∧ ∃ l' : List Ev, l'.Perm l ∧ wk l' ∧ Evs w' v l' ∧ Below B w w' := by
  have hs := owns_sl (enc := ecs) (k := 9) (fun _ => rfl) h
  by_cases h0 : l = []
  · subst h0
    have hv : ∃ ao cap, v = .slice ao 0 cap := by
      obtain ⟨ao, L, cap, e, h1, _⟩ := hs
      exact ⟨ao, cap, by rw [e, ← h1]; rfl⟩
    obtain ⟨ao, cap, rfl⟩ := hv
    have hcon := AnyF.slices_SortFunc_none sortEv ao cap (.func (.func 33) #[] #[]) w
    exact hcon.mono fun e w' ⟨he, hw⟩ => by subst hw; exact ⟨he, [], List.Perm.refl _, List.Pairwise.nil, hs, Below.refl _ _⟩
  · rcases h.2 with ⟨_, hn⟩ | ⟨g, cap, cur, rfl, hBg, hg, hn, hm, hcs, ht⟩
    · exact (h0 (List.length_eq_zero_iff.1 hn)).elim
    have hglt : g < w.heap.size := (Array.getElem?_eq_some_iff.1 hg).1
    have hH : HoldsK ecs 9 w g 0 l.toArray := holdsE (cap := cap) hg ht
    have hcon := AnyQ.slices_SortFunc sortEv 9 Try.isAgg31 Try.sizeOf31 ecs (fun _ => rfl) ecs_one (fun x y => cmpK x.key y.key) swoE 33 #[] g 0 cap l.toArray w (enters_of Try.func33 (by kernel_rfl) rfl) (cmpLaysE g 0 _ w) hH hglt (by simp; omega)
    change Calls Try.prog 32 _ _ _ at hcon
    refine hcon.mono fun e w' ⟨he, d', n, os, hp, hso, hw⟩ => ⟨he, d'.toList, ?_, ?_, ?_, ?_⟩
    · have := hp.2.2
      have h1 := hp.1
      simp at h1
      simp at this
      rwa [List.take_of_length_le (by simp; omega)] at this
    · unfold wk
      rw [List.pairwise_iff_getElem]
      intro i j hi hj hij
      have hsz : d'.size = l.length := by simpa using hp.1
      have hi' : i < d'.size := by simpa using hi
      have hj' : j < d'.size := by simpa using hj
      have := hso i j (Nat.zero_le _) hij (by simp; omega)
      rw [ltE, getElem!_pos d' j hj', getElem!_pos d' i hi'] at this
      simpa using this
    · have hsz : d'.size = l.length := by simpa using hp.1
      have hH' : HoldsK ecs 9 w' g 0 d' := by rw [hw]; exact holdsK_sortWorldK ecs 9 w g 0 n l.toArray d' os hglt hH (by simpa using hp.1)
      have hb := below_sort (w := w) (B := B) (g := g) (n := n) (d := d') (os := os) hBg hB
      have hlt' : g < w'.heap.size := by
        rw [hw]
        unfold sortWorldK putRowK putRow mapBlock grow Sort.ahead
        simp
        omega
      have := evs_of_holds (cap := cap) hH' hlt' (by omega) (by unfold maxLen at hm; omega)
      rwa [hsz] at this
    · rw [hw]
      exact below_sort hBg hB

end Ytfkbkfaiplhehaa.Ev
end Go.Proofs
