/- Lists of events as rows; their clones (layer 11, event). -/
import Derived.Test.YtoogcbniphoaoaaDoorEvN
import Derived.Shelf.SlGeneric
import Derived.Shelf.SlLaysF0
import Derived.Lib.SliceRun
namespace Go.Proofs
namespace YtoogcbniphoaoaaDoor.Ev
open Go.RowKit Go.Shelf Go.Lib
open Go.Sort hiding Below
set_option linter.unusedVariables false

theorem info_event : (Tryd.prog.info? 45).map (fun i => (i.zero, i.size, i.bytes)) = some (some (ev zeroE), 9, 72) := by kernel_rfl
theorem info_key : (Tryd.prog.info? 43).map (fun i => (i.zero, i.size, i.bytes)) = some (some (kv zeroK), 4, 32) := by kernel_rfl

theorem row_flat {α : Type} {enc : α → List Value} {k : Nat} (hk : ∀ x, (enc x).length = k) (h0 : 0 < k) {w : World} {ad : Addr} {l : List α} (h : Row enc k w (some ad) l) : ∀ j u, (flat enc l)[j]? = some u → w.cell? (ad.add j) = some u := by
  intro j u hj
  have hlt : j < l.length * k := by rw [← flat_len hk]; exact (List.getElem?_eq_some_iff.1 hj).1
  have hl : 0 < l.length := by
    rcases Nat.eq_zero_or_pos l.length with e | e
    · rw [e] at hlt; simp at hlt
    · exact e
  obtain ⟨b, o, e, hb, hc⟩ := h hl
  injection e with e
  subst e
  have hq : j / k < l.length := Nat.div_lt_of_lt_mul (by rw [Nat.mul_comm]; exact hlt)
  have hm : j % k < k := Nat.mod_lt _ h0
  have hjj : j / k * k + j % k = j := by rw [Nat.mul_comm]; exact Nat.div_add_mod j k
  have h1 := flat_at hk l (j / k) hq (j % k) hm
  rw [hjj, hj] at h1
  have h2 := hc (j / k) hq (j % k) u h1.symm
  rw [Nat.add_assoc, hjj] at h2
  rw [Addr.add_lit]
  exact h2

set_option maxRecDepth 100000 in
set_option maxHeartbeats 400000 in
theorem clone_c (v : Value) (l : List Ev) (w : World) (h : Evs w v l) (hl : l.length ≤ 4096) :
    Calls Tryd.prog 36 #[v] w fun e w' => ∃ v', e = .returned v' ∧ w'.ownsRow w.heap.size 45 9 v' l.length (flat ecs l) ∧ Below w.heap.size w w' := by
  obtain ⟨ao, L, cap, rfl, hL, hc, hm, ht⟩ := h
  have q22 : ∀ (w : World) (a : Option Addr) (n c n' c' : Nat), (binOp .eql 37 (.slice a n c) (.slice none n' c')).run Tryd.prog w = .ok (.bool a.isNone) w := fun w a n c n' c' => Lib.run_eql_slice_nil w _ _ a n c n' c' Tryd.underlying37
  obtain ⟨i0, hi, hz0, hz1, hz2⟩ := info_parts info_event
  cases ao with
  | none =>
    have h0 : l.length = 0 := by
      rcases Nat.eq_zero_or_pos l.length with e | e
      · exact e
      · obtain ⟨b, o, e, _⟩ := ht e
        cases e
    have hnil : l = [] := List.length_eq_zero_iff.1 h0
    subst hnil
    clear ht
    go_enter Tryd.func36, Tryd.ntmps36
    go_wp2_with fail
    go_ret
    exact ⟨_, rfl, World.ownsRow_nil _ _ _ _, br w⟩
  | some ad =>
    have HF := hid (row_flat (k := 9) (fun _ => rfl) (by decide) (ht.below (bal (br w) (.cells #[] 45))))
    have HL := hid hL
    subst hL
    clear ht
    go_enter Tryd.func36, Tryd.ntmps36
    have hfl : (flat ecs l).length = l.length * 9 := flat_len (enc := ecs) (fun _ => rfl) l
    have HFL := hid hfl
    clear hfl
    go_wp2_with (at_builtin; refine wpList_append_own_at _ rfl _ _ 37 rfl w.heap.size 45 i0 (ev zeroE) 9 72 Tryd.underlying37 hi hz0 hz1 hz2 rfl (by decide) _ _ _ rfl (World.ownsRow_made w #[] 0 (Nat.le_refl _) (Nat.zero_le _) (by simp)) ad l.length cap (flat ecs l) rfl HFL.out HF.out (flat_cell ecs_one l) (by unfold maxLen; omega) (by omega) (by simp) ?_; intro v1 w1 hown1 hg1 _ _)
    go_ret
    refine ⟨_, rfl, by simpa using hown1, ?_⟩
    exact (bal (br w) _).grown hg1 (by simp) (fun k e => by cases e; exact Nat.le_refl _)


end YtoogcbniphoaoaaDoor.Ev
end Go.Proofs
