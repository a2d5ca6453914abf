/- Lists of events that are read: all may be; in order; the same; where a key's event stands (layer 11, event, and its document's answers). -/
import Derived.Test.YtfclnhmijjlhdaaGreatDoorJ3
namespace Go.Proofs.YtfclnhmijjlhdaaGreatDoor.Ev
open Go.RowKit
set_option linter.unusedVariables false

theorem all_take {α : Type} {q : α → Bool} {l : List α} {k : Nat} {x : α} (hx : l[k]? = some x) (h : (l.take k).all q = true) (hq : q x = true) : (l.take (k + 1)).all q = true := by
 rw [List.take_add_one, hx, List.all_append, h]
 simpa using hq
theorem all_not {α : Type} {q : α → Bool} {l : List α} {k : Nat} {x : α} (hx : l[k]? = some x) (hq : q x = false) : l.all q = false := by
 rw [← Bool.not_eq_true]
 intro h
 rw [List.all_eq_true] at h
 have := h x (List.mem_of_getElem? hx)
 rw [hq] at this
 cases this
theorem get_lt {α : Type} {l : List α} {L k : Nat} (hL : l.length = L) (h : k < L) : ∃ x, l[k]? = some x := ⟨l[k]'(by omega), List.getElem?_eq_getElem _⟩
theorem all_end {α : Type} {q : α → Bool} {l : List α} {L k : Nat} (hL : l.length = L) (hk : ¬ k < L) (h : (l.take k).all q = true) : l.all q = true := by
 rwa [List.take_of_length_le (by omega)] at h

theorem take_eq_step {α : Type} {a b : List α} {k : Nat} {x : α} (ha : a[k]? = some x) (hb : b[k]? = some x) (h : a.take k = b.take k) : a.take (k + 1) = b.take (k + 1) := by
 rw [List.take_add_one, List.take_add_one, ha, hb, h]
theorem take_eq_end {α : Type} {a b : List α} {L M k : Nat} (ha : a.length = L) (hb : b.length = M) (hLM : L = M) (hk : ¬ k < L) (h : a.take k = b.take k) : a = b := by
 rwa [List.take_of_length_le (by omega), List.take_of_length_le (by omega)] at h
theorem take_ne {α : Type} {a b : List α} {k : Nat} {x y : α} (ha : a[k]? = some x) (hb : b[k]? = some y) (h : x ≠ y) : a ≠ b := by
 rintro rfl
 rw [ha] at hb
 injection hb with hb
 exact h hb

set_option maxRecDepth 100000 in
set_option maxHeartbeats 1000000 in
theorem rsame_c (u v : Value) (a b : List Ev) (w : World) (hu : Evs w u a) (hv : Evs w v b) :
 Calls Tryz.prog 22 #[u, v] w fun e w' => e = .returned (.bool (decide (a = b))) ∧ Gr w w' := by
 obtain ⟨ao, L, cap, rfl, hL, hc, hm, ht⟩ := hu
 obtain ⟨ao2, L2, cap2, rfl, hL2, hc2, hm2, ht2⟩ := hv
 have hg := guardE
 by_cases hLL : L = L2
 case neg =>
  rw [decide_eq_false (by rintro rfl; omega)]
  have hLL' : ¬ (L : Int) = (L2 : Int) := by omega
  clear ht ht2 hL hL2 hLL
  go_enter Tryz.func22, Tryz.ntmps22
  go_wp2_with fail
  go_ret
  exact ⟨rfl, gr w⟩
 have HL := hid hL
 have HL2 := hid hL2
 have HT := hid ht
 have HT2 := hid ht2
 have HLL := hid hLL
 clear hL hL2 ht ht2
 subst hLL
 go_enter Tryz.func22, Tryz.ntmps22
 go_wp2_with fail
 go_loopw [5] (fun i wr => ∃ k d : Nat, k ≤ L ∧ i = .int .i64 k ∧ wr = w.drewN d ∧ Hid (a.take k = b.take k)) (fun i _ => L - (intOf i).toNat)
 case atStart => exact ⟨0, 0, Nat.zero_le _, rfl, rfl, hid rfl⟩
 case round =>
  obtain ⟨k, d, hk, rfl, rfl, hr⟩ := hrel
  by_cases hlt : k < L
  · obtain ⟨x, hx⟩ := get_lt HL.out hlt
    obtain ⟨y, hy⟩ := get_lt HL2.out hlt
    obtain ⟨p1, o1, rfl, hb1, c0, c1, c2, c3, c4, c5, c6, c7, c8⟩ := HT.out.ev hx
    obtain ⟨p2, o2, rfl, hb2, d0, d1, d2, d3, d4, d5, d6, d7, d8⟩ := HT2.out.ev hy
    have hk1 : (k : Int) < (L : Int) := by omega
    have hk0 : (0 : Int) ≤ (k : Int) := by omega
    have he := neqE x y
    by_cases hE : x = y
    · have HN := hid (take_eq_step hx (by rw [hE]; exact hy) hr.out)
      have hd : (!decide (x = y)) = false := by simpa using hE
      rw [hd] at he
      clear hx hy hE hd
      go_wp2_with fail
      go_quiet (fail)
      go_wp2_with fail
      go_roundw
      case rel => exact ⟨k + 1, _, by omega, by go_num, rfl, HN⟩
      case measure => simp [intOf]; omega
    · have HN : Hid (decide (a = b) = false) := hid (decide_eq_false (take_ne hx hy hE))
      have hd : (!decide (x = y)) = true := by simpa using hE
      rw [hd] at he
      clear hx hy hE hd
      go_wp2_with fail
      go_quiet (fail)
      go_wp2_with fail
      go_ret
      exact ⟨by rw [HN.out]; rfl, gdn (gdn (gr _) _) _⟩
  · have HN : Hid (decide (a = b) = true) := hid (decide_eq_true (take_eq_end HL.out HL2.out rfl hlt hr.out))
    have hd : decide ((k : Int) < (L : Int)) = false := by simp; omega
    go_wp2_with fail
    go_ret
    exact ⟨by rw [HN.out]; rfl, gdn (gr _) _⟩

theorem getK_not {l : List Ev} {k : Nat} {x : Ev} {q : Ky} (hx : l[k]? = some x) (h : getK (l.take k) q = none) (hq : x.key ≠ q) : getK (l.take (k + 1)) q = none := by
 unfold getK at h ⊢
 rw [List.take_add_one, hx, List.find?_append, h]
 simpa using hq
theorem getK_here {l : List Ev} {k : Nat} {x : Ev} {q : Ky} (hx : l[k]? = some x) (h : getK (l.take k) q = none) (hq : x.key = q) : getK l q = some x := by
 unfold getK at h ⊢
 rw [← List.take_append_drop k l, List.find?_append, h]
 have : l.drop k = x :: l.drop (k + 1) := by
  obtain ⟨hlt, rfl⟩ := List.getElem?_eq_some_iff.1 hx
  exact List.drop_eq_getElem_cons hlt
 rw [this]
 simp [hq]
theorem getK_end {l : List Ev} {L k : Nat} {q : Ky} (hL : l.length = L) (hk : ¬ k < L) (h : getK (l.take k) q = none) : getK l q = none := by
 rwa [List.take_of_length_le (by omega)] at h
/-- the number tells where the key's event stands; -1: there is none. -/
def AtR (l : List Ev) (q : Ky) (r : Int) : Prop := (r = -1 ∧ getK l q = none) ∨ ∃ (i : Nat) (x : Ev), r = i ∧ l[i]? = some x ∧ getK l q = some x

end Go.Proofs.YtfclnhmijjlhdaaGreatDoor.Ev
