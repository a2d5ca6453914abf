/- What the library's search answers on a list in order: how many keys stand ahead of a key, and whether it is there (layer 11, event). -/
import Derived.Test.YtoogcbniphoaoaaDoorEvE
import Derived.Deep.LoopGhost
namespace Go.Proofs.YtoogcbniphoaoaaDoor.Ev
open Go.RowKit Go.Sort
set_option linter.unusedVariables false

/-- how many keys stand ahead of q. -/
def lo (ks : List Ky) (q : Ky) : Nat := (ks.takeWhile fun k => decide (ltK k q)).length
theorem lo_le (ks : List Ky) (q : Ky) : lo ks q ≤ ks.length := (List.takeWhile_prefix _).length_le
theorem lo_lt {ks : List Ky} (h : up ks) (q : Ky) (j : Nat) (p : Ky) (hp : ks[j]? = some p) : j < lo ks q ↔ ltK p q := by
  obtain ⟨t, ht⟩ := List.takeWhile_prefix (l := ks) (fun k => decide (ltK k q))
  constructor
  · intro hj
    have hm : p ∈ ks.takeWhile fun k => decide (ltK k q) := by
      unfold lo at hj
      rw [← ht, List.getElem?_append_left hj] at hp
      exact List.mem_of_getElem? hp
    have := List.all_takeWhile (p := fun k => decide (ltK k q)) (l := ks)
    rw [List.all_eq_true] at this
    simpa using this p hm
  · intro hlt
    rcases Nat.lt_or_ge j (lo ks q) with hj | hj
    · exact hj
    exfalso
    obtain ⟨hjl, rfl⟩ := List.getElem?_eq_some_iff.1 hp
    have hlen : lo ks q < ks.length := by omega
    have hn : ¬ ltK ks[lo ks q] q := by
      have hd : ks.dropWhile (fun k => decide (ltK k q)) = ks.drop (lo ks q) := by
        have h1 := List.takeWhile_append_dropWhile (p := fun k => decide (ltK k q)) (l := ks)
        have h2 : ks.drop (lo ks q) = (ks.takeWhile (fun k => decide (ltK k q)) ++ ks.dropWhile (fun k => decide (ltK k q))).drop (ks.takeWhile (fun k => decide (ltK k q))).length := by rw [h1]; rfl
        rw [h2, List.drop_left]
      have hne : ks.dropWhile (fun k => decide (ltK k q)) ≠ [] := by
        rw [hd]
        intro h0
        have := congrArg List.length h0
        simp at this
        omega
      have := List.head_dropWhile_not (fun k => decide (ltK k q)) hne
      have he : (ks.dropWhile (fun k => decide (ltK k q))).head hne = ks[lo ks q] := by
        have : (ks.dropWhile (fun k => decide (ltK k q))).head? = some ks[lo ks q] := by
          rw [hd, List.head?_drop, List.getElem?_eq_getElem hlen]
        rw [List.head?_eq_some_head hne] at this
        injection this
      rw [he] at this
      simpa using this
    rcases Nat.eq_or_lt_of_le hj with e | hj
    · exact hn (by simpa [e] using hlt)
    · exact hn (ltK_trans (List.pairwise_iff_getElem.1 h _ _ hlen hjl hj) hlt)
theorem has_some {ks : List Ky} (h : up ks) {q p : Ky} (hp : ks[lo ks q]? = some p) : decide (q ∈ ks) = (cmpK p q == 0) := by
  rw [Bool.eq_iff_iff]
  simp only [decide_eq_true_eq, beq_iff_eq]
  rw [cmpK_zero]
  constructor
  · intro hm
    obtain ⟨j, hj, rfl⟩ := List.mem_iff_getElem.1 hm
    have hn := mt (lo_lt h ks[j] j ks[j] (List.getElem?_eq_getElem hj)).1 (ltK_irr _)
    obtain ⟨hl, e⟩ := List.getElem?_eq_some_iff.1 hp
    have hge := mt (lo_lt h ks[j] _ p hp).2 (Nat.lt_irrefl _)
    rcases Nat.eq_or_lt_of_le (Nat.le_of_not_lt hn) with e2 | h2
    · rw [← e]
      congr 1
    · exact (hge (by rw [← e]; exact List.pairwise_iff_getElem.1 h _ _ hl hj h2)).elim
  · rintro rfl
    exact List.mem_of_getElem? hp
theorem has_none {ks : List Ky} (h : up ks) {q : Ky} (hp : ks[lo ks q]? = none) : decide (q ∈ ks) = false := by
  rw [decide_eq_false_iff_not]
  intro hm
  obtain ⟨j, hj, rfl⟩ := List.mem_iff_getElem.1 hm
  have hn := mt (lo_lt h ks[j] j ks[j] (List.getElem?_eq_getElem hj)).1 (ltK_irr _)
  rw [List.getElem?_eq_none_iff] at hp
  omega

end Go.Proofs.YtoogcbniphoaoaaDoor.Ev
