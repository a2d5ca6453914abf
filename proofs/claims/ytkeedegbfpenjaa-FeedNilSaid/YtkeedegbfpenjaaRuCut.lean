/- What slices.Delete returns at a window's list, and what Get, First, Move and Cut of layer 4's windows return and leave of the memory. -/
import Derived.Test.YtkeedegbfpenjaaRuSearch
import Derived.Deep.RegionHeld3
namespace Go.Proofs.Ytkeedegbfpenjaa.Ru
open Rg
open Go.RowKit
set_option linter.unusedVariables false

theorem info_framed : (Try.prog.info? 59).map (fun i => (i.zero, i.size, i.bytes)) = some (some (.agg #[.int .i64 0, .int .u8 0]), 2, 16) := by kernel_rfl

def zs2 (n : Nat) : List Value := (Builtin.zeroCells (Value.agg #[.int .i64 0, .int .u8 0]).cells n).toList
theorem zeros_two (n : Nat) : (Builtin.zeroCells (Value.agg #[.int .i64 0, .int .u8 0]).cells n).toList = zs2 n := rfl
theorem zs2_len (n : Nat) : (zs2 n).length = n * 2 := by
  show (Builtin.zeroCells #[Value.int .i64 0, Value.int .u8 0] n).toList.length = _
  simp [Builtin.zeroCells]
theorem zs2_one (n : Nat) : ∀ v ∈ zs2 n, v.oneCell' = true := by
  intro v hv
  have hv' : v ∈ (Builtin.zeroCells #[Value.int .i64 0, Value.int .u8 0] n).toList := hv
  obtain ⟨k, hk⟩ := List.mem_iff_getElem?.1 hv'
  have h3 : k % 2 = 0 ∨ k % 2 = 1 := by omega
  obtain ⟨h4, h5⟩ := List.getElem?_eq_some_iff.1 hk
  subst h5
  simp [Builtin.zeroCells]
  rcases h3 with h | h <;> simp [h] <;> rfl

set_option maxHeartbeats 1000000 in
theorem delete2_lt (n₀ g n cap i j : Nat) (xs : List Value) (w : World) (h : w.ownsRow n₀ 59 2 (.slice (some ⟨g, 0, none⟩) n cap) n xs) (h1 : ∀ u ∈ xs, u.oneCell' = true) (hij : i < j) (hj : j ≤ n) (hn : n ≤ 4096) :
    Calls Try.prog 31 #[.slice (some ⟨g, 0, none⟩) n cap, .int .i64 i, .int .i64 j] w fun e w' => e = .returned (.slice (some ⟨g, 0, none⟩) (i + (n - j)) cap) ∧
      w'.ownsRow n₀ 59 2 (.slice (some ⟨g, 0, none⟩) (i + (n - j)) cap) (i + (n - j)) (xs.take (i * 2) ++ xs.drop (j * 2)) ∧ w.grownBy w' (some g) := by
  obtain ⟨i0, hi0, hz0, hz1, hz2⟩ := info_parts info_framed
  obtain ⟨hcap, hm⟩ : n ≤ cap ∧ cap ≤ 9223372036854775807 := by
    rcases h.2 with ⟨h', _⟩ | ⟨_, _, _, h', _, _, h2, h3, _⟩
    · simp at h'
    · cases h'; exact ⟨h2, by simpa [maxLen] using h3⟩
  obtain ⟨cur, hg⟩ : ∃ cur, w.heap[g]? = some (.cells cur 59 (0, 0)) := by
    rcases h.2 with ⟨h', _⟩ | ⟨_, _, cur, h', _, hh, _⟩
    · simp at h'
    · cases h'; exact ⟨cur, hh⟩
  obtain ⟨news, hnews⟩ : ∃ news, news = xs.drop (j * 2) := ⟨_, rfl⟩
  have hlen : news.length = (n - j) * 2 := by rw [hnews, List.length_drop, h.1]; omega
  obtain ⟨A, hA, hsrc⟩ : ∃ A : Addr, (if cap = j then some (⟨g, 0, none⟩ : Addr) else some ⟨g, j * 2, none⟩) = some A ∧ Hid (∀ t u, news[t]? = some u → w.drew.cell? (A.add t) = some u) := by
    by_cases hc : cap = j
    · refine ⟨⟨g, 0, none⟩, by simp [hc], fun t u hu => ?_⟩
      have h0 : news.length = 0 := by rw [hlen]; omega
      rw [List.length_eq_zero_iff.1 h0] at hu
      simp at hu
    · refine ⟨⟨g, j * 2, none⟩, by simp [hc], fun t u hu => ?_⟩
      rw [Addr.add_lit]
      exact row_from h (j * 2) t u (by rw [← hnews]; exact hu)
  have s1 : Hid (news.length = (n - j) * 2) := hlen
  have s2 : Hid (∀ u ∈ news, u.oneCell' = true) := fun u hu => h1 u (List.mem_of_mem_drop (by rw [← hnews]; exact hu))
  have s3 : Hid (∀ t, t < news.length → (w.drew.cell? ⟨g, 0 + i * 2 + t, none⟩).isSome = true ∧ w.drew.frozen? ⟨g, 0 + i * 2 + t, none⟩ = false) := by
    intro t ht
    exact row_there h (0 + i * 2 + t) (by rw [hlen] at ht; omega)
  obtain ⟨W1, hW1⟩ : ∃ W1, W1 = w.drew.setCells g (0 + i * 2) news := ⟨_, rfl⟩
  have hcl : ∀ ty, (Builtin.clear_ #[54] ty #[.slice (some ⟨g, (i + (n - j)) * 2, none⟩) (n - (i + (n - j))) (cap - (i + (n - j)))]).run Try.prog W1 = .ok (.tuple #[]) (W1.setCells g ((i + (n - j)) * 2) (zs2 (n - (i + (n - j))))) := by
    intro ty
    have ht : ∀ k, k < (n - (i + (n - j))) * 2 → (W1.cell? ⟨g, (i + (n - j)) * 2 + k, none⟩).isSome = true ∧ W1.frozen? ⟨g, (i + (n - j)) * 2 + k, none⟩ = false := by
      intro k hk
      rw [hW1]
      exact there_set (w := w.drew) news (0 + i * 2) _ (row_there h _ (by omega)) cur hg
    refine run_clear_k W1 _ _ ty (.agg #[.int .i64 0, .int .u8 0]) _ Try.underlying54 Try.zeroValue59 g ((i + (n - j)) * 2) _ _ (by omega) (zeros_two _) (zs2_one _) ?_ ?_
    · intro k hk; exact (ht k (by rw [zs2_len] at hk; exact hk)).1
    · intro k hk; exact (ht k (by rw [zs2_len] at hk; exact hk)).2
  have hW : Hid (W1 = w.drew.setCells g (0 + i * 2) news) := hW1
  have hN : Hid (news = xs.drop (j * 2)) := hnews
  have hO := hid (del_own h (Nat.le_of_lt hij) hj 1 (zs2 (n - (i + (n - j)))) (by rw [zs2_len]; congr 1; omega))
  have hic : i ≤ cap := by omega
  have hjc : j ≤ cap := by omega
  clear hW1 hnews hlen hg h h1
  go_enter Try.func31, Try.ntmps31
  go_wp2_with fail
  go_region_law (refine step_append_room rfl (.tmp 22) (.tmp 25) 54 rfl 59 i0 2 Try.underlying54 hi0 hz1 g 0 i cap (by simp [Act.eval, Act.put]) A (n - j) (cap - j) news (by simp [Act.eval, Act.put]) s1.out hsrc.out s2.out (by omega) s3.out ?_; rw [← hW.out])
  go_wp2
  go_ret
  have := hO.out
  rw [hW.out, hN.out, Nat.zero_add]
  exact ⟨rfl, this⟩

theorem delete2_c (n₀ n cap i j : Nat) (ao : Option Addr) (xs : List Value) (w : World) (h : w.ownsRow n₀ 59 2 (.slice ao n cap) n xs) (h1 : ∀ u ∈ xs, u.oneCell' = true) (hij : i ≤ j) (hj : j ≤ n) (hn : n ≤ 4096) :
    Calls Try.prog 31 #[.slice ao n cap, .int .i64 i, .int .i64 j] w fun e w' => e = .returned (.slice ao (i + (n - j)) cap) ∧
      w'.ownsRow n₀ 59 2 (.slice ao (i + (n - j)) cap) (i + (n - j)) (xs.take (i * 2) ++ xs.drop (j * 2)) ∧ w.grownBy w' (Value.ownBlock (.slice ao n cap)) := by
  obtain ⟨hcap, hm⟩ : n ≤ cap ∧ cap ≤ 9223372036854775807 := by
    rcases h.2 with ⟨h', h0⟩ | ⟨_, _, _, h', _, _, h2, h3, _⟩
    · cases h'; exact ⟨by omega, by omega⟩
    · cases h'; exact ⟨h2, by simpa [maxLen] using h3⟩
  by_cases heq : i = j
  · subst heq
    have e1 : i + (n - i) = n := by omega
    rw [e1, List.take_append_drop]
    have hw : Hid (w.ownsRow n₀ 59 2 (.slice ao n cap) n xs) := h
    have h0 : Calls Try.prog 31 #[.slice ao n cap, .int .i64 i, .int .i64 i] w fun e w' => e = .returned (.slice ao n cap) ∧ w = w' := by
      rcases h.2 with ⟨h', rfl⟩ | ⟨g, cap', cur, h', _⟩
      · cases h'
        obtain rfl : i = 0 := by omega
        clear h e1 hw
        go_enter Try.func31, Try.ntmps31
        go_wp2
        go_ret
        exact ⟨rfl, rfl⟩
      · cases h'
        clear h e1 hw
        go_enter Try.func31, Try.ntmps31
        go_wp2
        all_goals (go_ret; exact ⟨rfl, rfl⟩)
    refine h0.mono ?_
    rintro e w' ⟨rfl, rfl⟩
    exact ⟨rfl, h, ⟨rfl, rfl, rfl, Nat.le_refl _, fun _ _ _ => rfl⟩⟩
  · rcases h.2 with ⟨h', rfl⟩ | ⟨g, cap', cur, h', _⟩
    · omega
    · cases h'
      exact delete2_lt n₀ g n cap i j xs w h h1 (by omega) hj hn

/-- a frame's thing, or 0. -/
def thingI (l : List (Int × Int)) (f : Int) : Int := match l[lo l f]? with | some p => if p.1 == f then p.2 else 0 | none => 0

theorem get_c (i : Int) (n₀ b size cap : Nat) (first : Int) (ao : Option Addr) (l : List (Int × Int)) (w : World) (h : Win w n₀ 56 59 b size first ao cap l) (hr : Rising l) (hl : l.length ≤ 4096) :
    Calls Try.prog 22 #[.pointer (some ⟨b, 0, none⟩), .int .i64 i] w fun e w' => e = .returned (.tuple #[.int .u8 (thingI l i), .bool (hasF l i)]) ∧ Below w.heap.size w w' := by
  by_cases hh : hasF l i = true
  · obtain ⟨p, hp⟩ : ∃ p, l[lo l i]? = some p := by
      cases hx : l[lo l i]? with
      | none => rw [hasF_none hx] at hh; cases hh
      | some p => exact ⟨p, rfl⟩
    have hpi : (p.1 == i) = true := by rw [← hasF_some hp]; exact hh
    have ht : thingI l i = p.2 := by simp [thingI, hp, hpi]
    have HH := hid hh
    rw [ht, hh]
    have hlt : lo l i < l.length := (List.getElem?_eq_some_iff.1 hp).1
    clear hh ht hpi
    go_enter Try.func22, Try.ntmps22
    go_wp2_with fail
    refine (place_c i n₀ b size cap first ao l w h hr hl).mono ?_
    rintro e w1 ⟨rfl, hB⟩
    have h1 := h.old hB
    have c2 : w1.cell? ⟨b, 2, none⟩ = some (.slice ao l.length cap) := by simpa using h1.cell 2
    obtain ⟨g, rfl, _, e3, e4⟩ := win_cell h1.row _ p hp
    rw [HH.out]
    generalize lo l i = k at *
    clear hp
    go_wp2_with fail
    go_ret2
    exact ⟨rfl, hB⟩
  · have hh' : hasF l i = false := by simpa using hh
    have ht : thingI l i = 0 := by
      unfold thingI
      cases hx : l[lo l i]? with
      | none => rfl
      | some p => rw [hasF_some hx] at hh'; simp [hh']
    have HH := hid hh'
    rw [ht, hh']
    clear hh hh' ht
    go_enter Try.func22, Try.ntmps22
    go_wp2_with fail
    refine (place_c i n₀ b size cap first ao l w h hr hl).mono ?_
    rintro e w1 ⟨rfl, hB⟩
    rw [HH.out]
    go_wp2_with fail
    go_ret2
    exact ⟨rfl, hB⟩

end Go.Proofs.Ytkeedegbfpenjaa.Ru
