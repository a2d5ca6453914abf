/- What slices.Delete leaves of a list of the call's own: what stood ahead, what stood behind, and zero values beyond its new length; plain facts on rows of cells, of no program. -/
import Derived.Test.YtkeedegbfpenjaaRgWorld
import Derived.Lib.SliceRun
namespace Go.Proofs.Ytkeedegbfpenjaa.Rg
open Go.RowKit

/-- cells laid into an array from a place on. -/
def splice (cur : Array Value) (o : Nat) : List Value → Array Value
  | [] => cur
  | v :: r => splice (cur.setIfInBounds o v) (o + 1) r

theorem splice_size : ∀ (vs : List Value) (cur : Array Value) (o : Nat), (splice cur o vs).size = cur.size
  | [], _, _ => rfl
  | v :: r, cur, o => by rw [splice, splice_size r]; simp

theorem splice_get : ∀ (vs : List Value) (cur : Array Value) (o j : Nat), o + vs.length ≤ cur.size → (splice cur o vs)[j]? = if o ≤ j ∧ j < o + vs.length then vs[j - o]? else cur[j]?
  | [], cur, o, j, _ => by simp [splice]; intro h1 h2; omega
  | v :: r, cur, o, j, h => by
    simp only [List.length_cons] at h
    rw [splice, splice_get r _ _ _ (by simp; omega)]
    by_cases h1 : o + 1 ≤ j ∧ j < o + 1 + r.length
    · rw [if_pos h1, if_pos (by simp; omega), show j - o = (j - (o + 1)) + 1 by omega]; rfl
    · rw [if_neg h1, Array.getElem?_setIfInBounds]
      by_cases h2 : o = j
      · subst h2
        rw [if_pos rfl, if_pos (by omega), if_pos (by simp)]
        simp
      · rw [if_neg h2, if_neg (by simp; omega)]

theorem setCells_block (g : Nat) (e : TypeId) : ∀ (vs : List Value) (o : Nat) (w : World) (cur : Array Value), w.heap[g]? = some (.cells cur e (0, 0)) → (w.setCells g o vs).heap[g]? = some (.cells (splice cur o vs) e (0, 0))
  | [], _, _, _, h => h
  | v :: r, o, w, cur, h => by
    rw [World.setCells, splice]
    exact setCells_block g e r (o + 1) _ _ (heap_setCell_same w g o cur e v h)

theorem setCells_grown (g : Nat) : ∀ (vs : List Value) (o : Nat) (w : World), w.grownBy (w.setCells g o vs) (some g)
  | [], _, w => ⟨rfl, rfl, rfl, Nat.le_refl _, fun _ _ _ => rfl⟩
  | v :: r, o, w => by
    rw [World.setCells]
    have h1 : w.grownBy (w.setCell ⟨g, o, none⟩ v) (some g) := ⟨rfl, rfl, rfl, by simp, fun k _ hk => heap_setCell_other w ⟨g, o, none⟩ k v (fun e => hk (by simp [e]))⟩
    exact h1.trans (setCells_grown g r (o + 1) _)

theorem grownBy_drewN (w : World) (q : Nat) (row : Option Nat) : w.grownBy (w.drewN q) row := ⟨rfl, rfl, rfl, Nat.le_refl _, fun _ _ _ => rfl⟩

/-- a list read by its places. -/
theorem take_splice {cur : Array Value} {vs : List Value} {o m : Nat} (h : o + vs.length ≤ cur.size) (hm : m ≤ o) : (splice cur o vs).toList.take m = cur.toList.take m := by
  apply List.ext_getElem?
  intro j
  rw [List.getElem?_take, List.getElem?_take]
  by_cases hj : j < m
  · rw [if_pos hj, if_pos hj, Array.getElem?_toList, Array.getElem?_toList, splice_get vs cur o j h, if_neg (by omega)]
  · rw [if_neg hj, if_neg hj]
theorem take_splice_all {cur : Array Value} {vs : List Value} {o : Nat} (h : o + vs.length ≤ cur.size) : (splice cur o vs).toList.take (o + vs.length) = cur.toList.take o ++ vs := by
  apply List.ext_getElem?
  intro j
  have hl : (cur.toList.take o).length = o := by rw [List.length_take, Array.length_toList]; omega
  rw [List.getElem?_take, List.getElem?_append, hl]
  by_cases hj : j < o + vs.length
  · rw [if_pos hj, Array.getElem?_toList, splice_get vs cur o j h]
    by_cases h1 : o ≤ j
    · rw [if_pos ⟨h1, hj⟩, if_neg (by omega)]
    · rw [if_neg (by omega), if_pos (by omega), List.getElem?_take, if_pos (by omega), Array.getElem?_toList]
  · rw [if_neg hj, if_neg (by omega), List.getElem?_eq_none (by omega)]

section
variable {w : World} {n₀ e sz g n cap : Nat} {xs : List Value}

/-- the elements from i up to j go: those behind move up, what comes free holds zs. -/
theorem del_own (h : w.ownsRow n₀ e sz (.slice (some ⟨g, 0, none⟩) n cap) n xs) {i j : Nat} (hij : i ≤ j) (hj : j ≤ n) (q : Nat) (zs : List Value) (hz : zs.length = (j - i) * sz) :
    (((w.drewN q).setCells g (i * sz) (xs.drop (j * sz))).setCells g ((i + (n - j)) * sz) zs).ownsRow n₀ e sz (.slice (some ⟨g, 0, none⟩) (i + (n - j)) cap) (i + (n - j)) (xs.take (i * sz) ++ xs.drop (j * sz)) ∧
    w.grownBy (((w.drewN q).setCells g (i * sz) (xs.drop (j * sz))).setCells g ((i + (n - j)) * sz) zs) (some g) := by
  refine ⟨?_, ((grownBy_drewN w q _).trans (setCells_grown g _ _ _)).trans (setCells_grown g _ _ _)⟩
  have hlen := h.1
  have hjs : j * sz ≤ n * sz := Nat.mul_le_mul_right _ hj
  have his : i * sz ≤ j * sz := Nat.mul_le_mul_right _ hij
  have hsum : (i + (n - j)) * sz = i * sz + (n * sz - j * sz) := by rw [Nat.add_mul, Nat.sub_mul]
  have hz' : zs.length = j * sz - i * sz := by rw [hz, Nat.sub_mul]
  rcases h.2 with ⟨h1, _⟩ | ⟨g', cap', cur, h1, hb, hg, hnc, hcm, hcs, ht⟩
  · simp at h1
  · cases h1
    have hnc' : n * sz ≤ cap * sz := Nat.mul_le_mul_right _ hnc
    have hd : (xs.drop (j * sz)).length = n * sz - j * sz := by rw [List.length_drop, hlen]
    refine ⟨by rw [List.length_append, List.length_take, hd, hlen, hsum]; omega, .inr ⟨g, cap, _, rfl, hb, setCells_block g e _ _ _ _ (setCells_block g e _ _ _ _ hg), by omega, hcm, by rw [splice_size, splice_size]; exact hcs, ?_⟩⟩
    rw [take_splice (by rw [splice_size]; omega) (Nat.le_refl _), hsum, ← hd, take_splice_all (by omega), ← ht, List.take_take, Nat.min_eq_left (by omega)]

/-- the cells of a row, asked from a place on. -/
theorem row_from (h : w.ownsRow n₀ e sz (.slice (some ⟨g, 0, none⟩) n cap) n xs) (o : Nat) : ∀ t u, (xs.drop o)[t]? = some u → w.cell? ⟨g, o + t, none⟩ = some u := by
  intro t u hu
  rw [List.getElem?_drop] at hu
  have hlt : o + t < xs.length := (List.getElem?_eq_some_iff.1 hu).1
  rw [h.cellAt (o + t) (by rw [← h.1]; exact hlt)]
  exact hu
/-- every cell of its capacity is there, and may be written. -/
theorem row_there (h : w.ownsRow n₀ e sz (.slice (some ⟨g, 0, none⟩) n cap) n xs) (k : Nat) (hk : k < cap * sz) : (w.cell? ⟨g, k, none⟩).isSome = true ∧ w.frozen? ⟨g, k, none⟩ = false := by
  refine ⟨?_, h.frozenAt k⟩
  rcases h.2 with ⟨h1, _⟩ | ⟨g', cap', cur, h1, hb, hg, hnc, hcm, hcs, ht⟩
  · simp at h1
  · cases h1
    rw [cell_of_row w g k cur e (0, 0) hg, Array.getElem?_eq_getElem (by omega)]
    rfl
/-- they are there behind cells that were laid. -/
theorem there_set (vs : List Value) (o k : Nat) (h : (w.cell? ⟨g, k, none⟩).isSome = true ∧ w.frozen? ⟨g, k, none⟩ = false) (cur : Array Value) (hg : w.heap[g]? = some (.cells cur e (0, 0))) :
    ((w.setCells g o vs).cell? ⟨g, k, none⟩).isSome = true ∧ (w.setCells g o vs).frozen? ⟨g, k, none⟩ = false := by
  refine ⟨?_, (World.frozen?_setCells g _ _ _ _).trans h.2⟩
  have h1 := h.1
  rw [cell_of_row w g k cur e (0, 0) hg] at h1
  rw [cell_of_row _ g k _ e (0, 0) (setCells_block g e vs o w cur hg)]
  have : k < cur.size := by
    by_cases hk : k < cur.size
    · exact hk
    · rw [Array.getElem?_eq_none (by omega)] at h1; simp at h1
  rw [Array.getElem?_eq_getElem (by rw [splice_size]; exact this)]
  rfl
end

/-- 'clear(s)', s of n > 0 elements of sz cells each: the cells hold the element type's zero value. -/
theorem run_clear_k {P : Program} (w : World) (t e ty : TypeId) (z : Value) (zs : List Value) (ht : P.underlying t = some (.slice e)) (hv : ∀ w, (zeroValue e).run P w = .ok z w) (b o n c : Nat) (hn : 0 < n)
    (hz : (Builtin.zeroCells z.cells n).toList = zs) (h1 : ∀ v ∈ zs, v.oneCell' = true)
    (hc : ∀ j, j < zs.length → (w.cell? ⟨b, o + j, none⟩).isSome = true) (hf : ∀ j, j < zs.length → w.frozen? ⟨b, o + j, none⟩ = false) :
    (Builtin.clear_ #[t] ty #[.slice (some ⟨b, o, none⟩) n c]).run P w = .ok (.tuple #[]) (w.setCells b o zs) := by
  have hst := run_storeCells_cells (P := P) b o zs 0 w (by simpa using hc) (by simpa using hf) h1
  simp only [Nat.add_zero] at hst
  obtain ⟨m, rfl⟩ : ∃ m, n = m + 1 := ⟨n - 1, by omega⟩
  simp [Builtin.clear_, run_underlying ht, hv, hz, hst]

theorem zeros_one (n : Nat) : (Builtin.zeroCells (Value.int .i64 0).cells n).toList = List.replicate n (.int .i64 0) := by
  show (Builtin.zeroCells #[Value.int .i64 0] n).toList = _
  simp [Builtin.zeroCells]
  apply List.ext_getElem
  · simp
  · intro i h1 h2
    simp [Nat.mod_one]

end Go.Proofs.Ytkeedegbfpenjaa.Rg
