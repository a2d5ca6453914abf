/- What slices.Insert leaves of a list of the call's own; plain facts on rows of cells, of no program. -/
import Derived.Test.YtkeedegbfpenjaaRgDel
import Derived.Lib.Overlaps
import Derived.Deep.AppendSrc
namespace Go.Proofs.Ytkeedegbfpenjaa.Rg
open Go.RowKit

/-- 'copy(d, s)' of elements of sz cells each. -/
theorem run_copy_k {P : Program} (w : World) (dT sT ty elem : TypeId) (i : TypeInfo) (sz : Nat) (b o dLen dCap : Nat) (a : Addr) (sLen sCap : Nat) (cs : List Value)
    (hu : P.underlying dT = some (.slice elem)) (hi : P.info? elem = some i) (hs : i.size = sz) (hn : cs.length = Nat.min sLen dLen * sz)
    (hsrc : ∀ j v, cs[j]? = some v → w.cell? (a.add j) = some v) (hc : ∀ j, j < cs.length → (w.cell? ⟨b, o + j, none⟩).isSome = true) (hf : ∀ j, j < cs.length → w.frozen? ⟨b, o + j, none⟩ = false) (h1 : ∀ v ∈ cs, v.oneCell' = true) :
    (Builtin.copy_ #[dT, sT] ty #[.slice (some ⟨b, o, none⟩) dLen dCap, .slice (some a) sLen sCap]).run P w = .ok (goInt (Nat.min sLen dLen)) (w.setCells b o cs) := by
  subst hs
  have hl := run_firstCells_some (P := P) w i.size (Nat.min sLen dLen) a sLen sCap cs hn hsrc
  have hst := run_storeCells_cells (P := P) b o cs 0 w (by simpa using hc) (by simpa using hf) h1
  simp only [Nat.add_zero] at hst
  simp [Builtin.copy_, run_underlying hu, sizeOf, typeInfo, hi, Builtin.lenOf, hl, hst]

theorem setCells_there {w : World} {g e : Nat} {cur : Array Value} (hg : w.heap[g]? = some (.cells cur e (0, 0))) (k : Nat) (hk : k < cur.size) : (w.cell? ⟨g, k, none⟩).isSome = true ∧ w.frozen? ⟨g, k, none⟩ = false := by
  refine ⟨?_, frozen_of_row w g k cur e hg⟩
  rw [cell_of_row w g k cur e (0, 0) hg, Array.getElem?_eq_getElem hk]
  rfl

/-- the first cells, those laid in, then those behind. -/
theorem take_two {cur : Array Value} {xs ys zs : List Value} {o m : Nat} (hx : cur.toList.take o = xs) (ho : o ≤ cur.size) (hy : o + ys.length + zs.length ≤ cur.size) (hm : m = o + ys.length + zs.length) :
    (splice (splice cur (o + ys.length) zs) o ys).toList.take m = xs ++ ys ++ zs := by
  subst hm
  have hxl : xs.length = o := by rw [← hx, List.length_take, Array.length_toList]; omega
  apply List.ext_getElem?
  intro j
  rw [List.getElem?_take]
  by_cases h1 : j < o
  · rw [if_pos (by omega), Array.getElem?_toList, splice_get _ _ _ _ (by rw [splice_size]; omega), if_neg (by omega), splice_get _ _ _ _ (by omega), if_neg (by omega), List.append_assoc, List.getElem?_append, if_pos (by omega), ← hx, List.getElem?_take, if_pos h1, Array.getElem?_toList]
  · by_cases h2 : j < o + ys.length
    · rw [if_pos (by omega), Array.getElem?_toList, splice_get _ _ _ _ (by rw [splice_size]; omega), if_pos (by omega), List.append_assoc, List.getElem?_append, if_neg (by omega), List.getElem?_append, if_pos (by omega), hxl]
    · by_cases h3 : j < o + ys.length + zs.length
      · rw [if_pos h3, Array.getElem?_toList, splice_get _ _ _ _ (by rw [splice_size]; omega), if_neg (by omega), splice_get _ _ _ _ (by omega), if_pos (by omega), List.append_assoc, List.getElem?_append, if_neg (by omega), List.getElem?_append, if_neg (by omega), hxl]
        congr 1
        omega
      · rw [if_neg h3, List.getElem?_eq_none (by rw [List.length_append, List.length_append]; omega)]

/-- there is room: the elements from i on move back, new cells stand there. -/
theorem ins_own {w : World} {n₀ e sz g n cap : Nat} {xs ys : List Value} (h : w.ownsRow n₀ e sz (.slice (some ⟨g, 0, none⟩) n cap) n xs) {i : Nat} (hi : i ≤ n) (hroom : n + 1 ≤ cap) (hy : ys.length = sz) (q : Nat) :
    (((w.drewN q).setCells g (i * sz + ys.length) (xs.drop (i * sz))).setCells g (i * sz) ys).ownsRow n₀ e sz (.slice (some ⟨g, 0, none⟩) (n + 1) cap) (n + 1) (xs.take (i * sz) ++ ys ++ xs.drop (i * sz)) ∧
    w.grownBy (((w.drewN q).setCells g (i * sz + ys.length) (xs.drop (i * sz))).setCells g (i * sz) ys) (some g) := by
  refine ⟨?_, ((grownBy_drewN w q _).trans (setCells_grown g _ _ _)).trans (setCells_grown g _ _ _)⟩
  have hlen := h.1
  have his : i * sz ≤ n * sz := Nat.mul_le_mul_right _ hi
  have hsum : (n + 1) * sz = n * sz + sz := by rw [Nat.add_mul, Nat.one_mul]
  rcases h.2 with ⟨h1, _⟩ | ⟨g', cap', cur, h1, hb, hg, hnc, hcm, hcs, ht⟩
  · simp at h1
  · cases h1
    have hnc' : (n + 1) * sz ≤ cap * sz := Nat.mul_le_mul_right _ hroom
    have hd : (xs.drop (i * sz)).length = n * sz - i * sz := by rw [List.length_drop, hlen]
    have htk : (xs.take (i * sz)).length = i * sz := by rw [List.length_take, hlen]; omega
    refine ⟨by rw [List.length_append, List.length_append, htk, hd, hsum]; omega, .inr ⟨g, cap, _, rfl, hb, setCells_block g e _ _ _ _ (setCells_block g e _ _ _ _ hg), hroom, hcm, by rw [splice_size, splice_size]; exact hcs, ?_⟩⟩
    refine take_two ?_ (by omega) (by omega) (by omega)
    rw [← ht, List.take_take, Nat.min_eq_left his]

/-- a new array: the first elements, zero values; then new cells, and those behind. -/
theorem ins_new {w : World} {n₀ e sz n cap' : Nat} {xs ys : List Value} {cur : Array Value} (hlen : xs.length = n * sz) {i : Nat} (hi : i ≤ n) (hy : ys.length = sz) (hn : n₀ ≤ w.heap.size) (hcap : n + 1 ≤ cap') (hm : cap' ≤ maxLen)
    (hc : cur.size = cap' * sz) (ht : cur.toList.take (i * sz) = xs.take (i * sz)) :
    (((w.alloc (.cells cur e)).setCells w.heap.size (i * sz) ys).setCells w.heap.size (i * sz + ys.length) (xs.drop (i * sz))).ownsRow n₀ e sz (.slice (some ⟨w.heap.size, 0, none⟩) (n + 1) cap') (n + 1) (xs.take (i * sz) ++ ys ++ xs.drop (i * sz)) ∧
    Below w.heap.size w (((w.alloc (.cells cur e)).setCells w.heap.size (i * sz) ys).setCells w.heap.size (i * sz + ys.length) (xs.drop (i * sz))) := by
  have hB : Below w.heap.size w (w.alloc (.cells cur e)) := (Below.refl _ w).alloc (Nat.le_refl _) _
  have g1 := (setCells_grown w.heap.size ys (i * sz) (w.alloc (.cells cur e))).trans (setCells_grown w.heap.size (xs.drop (i * sz)) (i * sz + ys.length) _)
  refine ⟨?_, hB.grown g1 hB.size (fun k e => by cases e; exact Nat.le_refl _)⟩
  have his : i * sz ≤ n * sz := Nat.mul_le_mul_right _ hi
  have hsum : (n + 1) * sz = n * sz + sz := by rw [Nat.add_mul, Nat.one_mul]
  have hnc' : (n + 1) * sz ≤ cap' * sz := Nat.mul_le_mul_right _ hcap
  have hd : (xs.drop (i * sz)).length = n * sz - i * sz := by rw [List.length_drop, hlen]
  have htk : (xs.take (i * sz)).length = i * sz := by rw [List.length_take, hlen]; omega
  refine ⟨by rw [List.length_append, List.length_append, htk, hd, hsum]; omega, .inr ⟨w.heap.size, cap', _, rfl, hn, setCells_block _ e _ _ _ _ (setCells_block _ e _ _ _ _ (heap_alloc_new w _)), hcap, hm, by rw [splice_size, splice_size]; exact hc, ?_⟩⟩
  rw [hsum, show n * sz + sz = (i * sz + ys.length) + (xs.drop (i * sz)).length by omega, take_splice_all (by rw [splice_size]; omega), take_splice_all (by omega), ht]

end Go.Proofs.Ytkeedegbfpenjaa.Rg
