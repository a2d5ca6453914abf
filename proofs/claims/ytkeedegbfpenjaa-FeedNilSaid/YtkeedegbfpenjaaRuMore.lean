/- What At, Last, Push, Take and Pop of layer 4's rings return, and what they leave of the memory. -/
import Derived.Test.YtkeedegbfpenjaaRuCalls
namespace Go.Proofs.Ytkeedegbfpenjaa.Ru
open Rg
open Go.RowKit
set_option linter.unusedVariables false

/-- the thing at i, and whether there is one. -/
def atB (l : List Int) (i : Int) : Bool := decide (0 ≤ i) && decide (i < l.length)
def atI (l : List Int) (i : Int) : Int := if atB l i = true then l[i.toNat]?.getD 0 else 0
theorem at_neg {l : List Int} {i : Int} (h : i < 0) : atB l i = false ∧ atI l i = 0 := by
  have : atB l i = false := by simp [atB]; omega
  exact ⟨this, by simp [atI, this]⟩
theorem at_far {l : List Int} {i : Int} (h : (l.length : Int) ≤ i) : atB l i = false ∧ atI l i = 0 := by
  have : atB l i = false := by simp [atB]; omega
  exact ⟨this, by simp [atI, this]⟩
theorem at_in {l : List Int} {k : Nat} (h : k < l.length) : atB l (k : Int) = true ∧ atI l (k : Int) = l[k]?.getD 0 := by
  have : atB l (k : Int) = true := by simp [atB]; omega
  exact ⟨this, by simp [atI, this]⟩

theorem at_nil (i : Int) (w : World) :
    Calls Try.prog 23 #[.pointer none, .int .i64 i] w fun e w' => e = .returned (.tuple #[.int .u8 0, .bool false]) ∧ w = w' := by
  by_cases h : i < 0
  · go_enter Try.func23, Try.ntmps23
    go_wp2_with fail
    go_ret2
    exact ⟨rfl, rfl⟩
  · go_enter Try.func23, Try.ntmps23
    go_wp2_with (go_at_call 24; ((with_reducible refine (len_nil _).mono ?_); rintro e w' ⟨rfl, rfl⟩))
    go_ret2
    exact ⟨rfl, rfl⟩

theorem at_c (i : Int) (n₀ b size cap : Nat) (ao : Option Addr) (l : List Int) (w : World) (h : Ring w n₀ 53 b size ao cap l) (hl : l.length ≤ 4096) :
    Calls Try.prog 23 #[.pointer (some ⟨b, 0, none⟩), .int .i64 i] w fun e w' => e = .returned (.tuple #[.int .u8 (atI l i), .bool (atB l i)]) ∧ w = w' := by
  have c1 : w.cell? ⟨b, 1, none⟩ = some (.slice ao l.length cap) := by simpa using h.cell 1
  by_cases h0 : i < 0
  · rw [(at_neg h0).1, (at_neg h0).2]
    clear c1
    go_enter Try.func23, Try.ntmps23
    go_wp2_with fail
    go_ret2
    exact ⟨rfl, rfl⟩
  · by_cases h1 : (l.length : Int) ≤ i
    · rw [(at_far h1).1, (at_far h1).2]
      go_enter Try.func23, Try.ntmps23
      go_wp2_with (go_at_call 24; ((with_reducible refine (len_c _ _ _ _ _ c1).mono ?_); rintro e w' ⟨rfl, rfl⟩))
      go_ret2
      exact ⟨rfl, rfl⟩
    · obtain ⟨k, rfl⟩ := Int.eq_ofNat_of_zero_le (show 0 ≤ i by omega)
      have hk : k < l.length := by omega
      rw [(at_in hk).1, (at_in hk).2]
      obtain ⟨g, rfl, hc⟩ := row_cell h.row k hk
      generalize l[k]?.getD 0 = y at hc ⊢
      go_enter Try.func23, Try.ntmps23
      go_wp2_with (go_at_call 24; ((with_reducible refine (len_c _ _ _ _ _ c1).mono ?_); rintro e w' ⟨rfl, rfl⟩))
      go_ret2
      exact ⟨rfl, rfl⟩

theorem push_nil (x : Int) (w : World) :
    Calls Try.prog 17 #[.pointer none, .int .u8 x] w fun e w' => e = .returned (.int .i64 2) ∧ w = w' := by
  go_enter Try.func17, Try.ntmps17
  go_wp2_with fail
  go_ret
  exact ⟨rfl, rfl⟩

theorem push_full (x : Int) (n₀ b size cap : Nat) (ao : Option Addr) (l : List Int) (w : World) (h : Ring w n₀ 53 b size ao cap l) (hs : size ≤ 4096) (hl : l.length = size) :
    Calls Try.prog 17 #[.pointer (some ⟨b, 0, none⟩), .int .u8 x] w fun e w' => e = .returned (.int .i64 8) ∧ ∃ q, w' = w.drewN q := by
  have c0 : w.cell? ⟨b, 0, none⟩ = some (.int .i64 size) := by simpa using h.cell 0
  have c1 : w.cell? ⟨b, 1, none⟩ = some (.slice ao l.length cap) := by simpa using h.cell 1
  have h0 : ((size : Int) - (l.length : Int)) = 0 := by omega
  have H0 := hid h0
  have hl' : l.length ≤ size := by omega
  clear hl h0
  go_enter Try.func17, Try.ntmps17
  go_wp2_with (go_at_call 27; ((with_reducible refine (room_c _ _ _ _ _ _ hs hl' c0 c1).mono ?_); rintro e w' ⟨rfl, q, rfl⟩; rw [H0.out]))
  go_ret
  exact ⟨rfl, _, rfl⟩

/-- what a list's growing by an append, and the field's store, make of a ring. -/
theorem push_step {w w1 : World} {n₀ t e b cap : Nat} {cs : List Value} {ao : Option Addr} {n m : Nat} {xs ys : List Value} {v' : Value} {q : Nat} {o : Obj} (h : Held w n₀ t e 1 b cs ao n cap xs) (hte : t ≠ e)
    (hown : w1.ownsRow n₀ e 1 v' m ys) (hg : ((w.drewN q).alloc o).grownBy w1 (Value.ownBlock (.slice ao n cap))) (hat : v'.ownBlock = Value.ownBlock (.slice ao n cap) ∨ v'.ownBlock = some ((w.drewN q).alloc o).heap.size) :
    Keeps (Foot b ao) w w1 ∧ w1.heap[b]? = w.heap[b]? ∧ ∃ ao' cap', v' = .slice ao' m cap' ∧ Near ao ao' w.heap.size := by
  have hk : Keeps (Foot b ao) w w1 := by
    refine (((Keeps.refl (Foot b ao) w).drew q).alloc o).grown hg ?_
    intro k hk _
    cases ao with
    | none => simp [Value.ownBlock] at hk
    | some a => exact .inr ⟨a, rfl, by simpa [Value.ownBlock] using hk.symm⟩
  refine ⟨hk, ?_, ?_⟩
  · refine (hg.block b ?_ ?_).trans ?_
    · have := h.lt; simp; omega
    · intro e'
      cases ao with
      | none => simp [Value.ownBlock] at e'
      | some a => exact h.apart hte a rfl (by simpa [Value.ownBlock] using e'.symm)
    · exact Below.heap_alloc _ _ _ h.lt
  · have hnear : ∀ ao' m' cap', v' = .slice ao' m' cap' → Near ao ao' w.heap.size := by
      rintro ao' m' cap' rfl a' rfl
      rcases hat with h1 | h1
      · cases ao with
        | none => simp [Value.ownBlock] at h1
        | some a => exact .inl ⟨a, rfl, by simpa [Value.ownBlock] using h1.symm⟩
      · refine .inr ?_
        simp [Value.ownBlock] at h1
        omega
    rcases hown.2 with ⟨h1, h2⟩ | ⟨g, cap', cur, h1, _⟩
    · exact ⟨none, 0, by rw [h1, h2], hnear _ _ _ h1⟩
    · exact ⟨_, cap', h1, hnear _ _ _ h1⟩

theorem push_c (x : Int) (n₀ b size cap : Nat) (ao : Option Addr) (l : List Int) (w : World) (h : Ring w n₀ 53 b size ao cap l) (hs : size ≤ 4096) (hl : l.length < size) (hn : n₀ ≤ w.heap.size) :
    Calls Try.prog 17 #[.pointer (some ⟨b, 0, none⟩), .int .u8 x] w fun e w' => e = .returned (.int .i64 0) ∧
      ∃ ao' cap', Ring w' n₀ 53 b size ao' cap' (l ++ [x]) ∧ Near ao ao' w.heap.size ∧ Keeps (Foot b ao) w w' := by
  have c0 : w.cell? ⟨b, 0, none⟩ = some (.int .i64 size) := by simpa using h.cell 0
  have c1 : w.cell? ⟨b, 1, none⟩ = some (.slice ao l.length cap) := by simpa using h.cell 1
  have h0 : (((size : Int) - (l.length : Int)) == 0) = false := by simp; omega
  have hl' : l.length ≤ size := by omega
  have hb := h.lt
  obtain ⟨i0, hi, hz0, hz1, hz2⟩ := info_parts info_u8
  go_enter Try.func17, Try.ntmps17
  go_wp2_with (first
    | (go_at_call 27; ((with_reducible refine (room_c _ _ _ _ _ _ hs hl' c0 c1).mono ?_); rintro e w' ⟨rfl, q, rfl⟩))
    | (at_builtin; refine wpList_append_own_at _ rfl _ _ 37 rfl n₀ 5 i0 (.int .u8 0) 1 1 Try.underlying37 hi hz0 hz1 hz2 rfl (by decide) _ _ _ rfl ((h.drewN _).row.alloc _) ⟨w.heap.size, 0, none⟩ 1 1 [.int .u8 x] rfl rfl (cell_one_new _ _ _) (by simp [Value.oneCell']) (by unfold maxLen; omega) (by omega) (by simp; omega) ?_; intro v' w1 hown hg _ hat; obtain ⟨hk, hblk, ao', cap', rfl, hnear⟩ := push_step h (by decide) hown hg hat; have c2 : w1.cell? ⟨b, 1, none⟩ = some (.slice ao l.length cap) := (World.cell?_of_block hblk).trans c1; have f2 : w1.frozen? ⟨b, 1, none⟩ = false := (World.frozen?_of_block hblk).trans (h.frozen 1)))
  go_ret
  obtain ⟨hh, hk2⟩ := h.stored (by decide) hk hblk hown
  refine ⟨rfl, ao', cap', ?_, hnear, hk2⟩
  have e1 : (l ++ [x]).length = l.length + 1 := by simp
  show Held _ _ _ _ _ _ _ _ _ _ _
  rw [e1, ints_snoc]
  exact hh

end Go.Proofs.Ytkeedegbfpenjaa.Ru
