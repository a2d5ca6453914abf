/- What Move and Cut of layer 4's windows return and leave of the memory. -/
import Derived.Test.YtkeedegbfpenjaaRuCut
import Derived.Deep.RegionWith
import Derived.Deep.DrawnRows
namespace Go.Proofs.Ytkeedegbfpenjaa.Ru
open Rg
open Go.RowKit
set_option linter.unusedVariables false
attribute [local go_sem ↓] Go.wp_at_zero Go.wp_at_succ

/-- the first frame's field is stored. -/
theorem win_first {w : World} {n₀ t e b size : Nat} {first : Int} {ao : Option Addr} {cap n : Nat} {xs : List Value} (h : Held w n₀ t e 2 b [.int .i64 size, .int .i64 first] ao n cap xs) (hte : t ≠ e) (f : Int) :
    Held (w.setCell ⟨b, 1, none⟩ (.int .i64 f)) n₀ t e 2 b [.int .i64 size, .int .i64 f] ao n cap xs ∧ Keeps (Foot b ao) w (w.setCell ⟨b, 1, none⟩ (.int .i64 f)) := by
  refine ⟨⟨?_, h.ge, ?_⟩, (Keeps.refl _ w).setCell (fun _ => .inl rfl) _⟩
  · exact heap_setCell_same w b 1 _ t (.int .i64 f) h.block
  · refine ownsRow_setCell_other h.row ?_ _
    intro e'
    cases ao with
    | none => simp [Value.ownBlock] at e'
    | some a => exact h.apart hte a rfl (by simpa [Value.ownBlock] using e')

/-- a list's cells turned in place, then the field stored. -/
theorem cut_step {w w1 : World} {n₀ t e b cap : Nat} {cs : List Value} {ao : Option Addr} {n m : Nat} {xs ys : List Value} (h : Held w n₀ t e 2 b cs ao n cap xs) (hte : t ≠ e)
    (hown : w1.ownsRow n₀ e 2 (.slice ao m cap) m ys) (hg : w.grownBy w1 (Value.ownBlock (.slice ao n cap))) :
    Keeps (Foot b ao) w w1 ∧ w1.heap[b]? = w.heap[b]? := by
  refine ⟨(Keeps.refl _ w).grown hg ?_, hg.block b h.lt ?_⟩
  · intro k hk _
    cases ao with
    | none => simp [Value.ownBlock] at hk
    | some a => exact .inr ⟨a, rfl, by simpa [Value.ownBlock] using hk.symm⟩
  · intro e'
    cases ao with
    | none => simp [Value.ownBlock] at e'
    | some a => exact h.apart hte a rfl (by simpa [Value.ownBlock] using e'.symm)

theorem keepsOld {S : Nat → Prop} {a b c : World} (h : Below a.heap.size a b) (k : Keeps S b c) : Keeps S a c := (Keeps.ofOld h S).trans k (fun _ _ e => e)

theorem move_no (i : Int) (n₀ b size cap : Nat) (first : Int) (ao : Option Addr) (l : List (Int × Int)) (w : World) (h : Win w n₀ 56 59 b size first ao cap l) (hi : i < first ∨ 1073741824 < i) :
    Calls Try.prog 21 #[.pointer (some ⟨b, 0, none⟩), .int .i64 i] w fun e w' => e = .returned (.int .i64 0) ∧ w = w' := by
  have c1 : w.cell? ⟨b, 1, none⟩ = some (.int .i64 first) := by simpa using h.cell 1
  by_cases h1 : i < first
  · have d1 : decide (i < first) = true := by simpa using h1
    go_enter Try.func21, Try.ntmps21
    go_wp2_with fail
    go_ret
    exact ⟨rfl, rfl⟩
  · have d1 : decide (i < first) = false := by simpa using h1
    have d2 : decide (1073741824 < i) = true := by simp; omega
    go_enter Try.func21, Try.ntmps21
    go_wp2_with fail
    go_ret
    exact ⟨rfl, rfl⟩

theorem move_c (i : Int) (n₀ b size cap : Nat) (first : Int) (ao : Option Addr) (l : List (Int × Int)) (w : World) (h : Win w n₀ 56 59 b size first ao cap l) (hr : Rising l) (hl : l.length ≤ 4096) (hi : first ≤ i ∧ i ≤ 1073741824) :
    Calls Try.prog 21 #[.pointer (some ⟨b, 0, none⟩), .int .i64 i] w fun e w' => e = .returned (.int .i64 (lo l i)) ∧
      Win w' n₀ 56 59 b size i ao cap (l.drop (lo l i)) ∧ Keeps (Foot b ao) w w' := by
  have hlo0 := lo_le l i
  obtain ⟨k, K⟩ : ∃ k, Hid (lo l i = k) := ⟨_, rfl⟩
  have hlo : k ≤ l.length := by rw [← K.out]; exact hlo0
  rw [K.out]
  clear hlo0
  have c1 : w.cell? ⟨b, 1, none⟩ = some (.int .i64 first) := by simpa using h.cell 1
  have f1 : w.frozen? ⟨b, 1, none⟩ = false := h.frozen 1
  have d1 : decide (i < first) = false := by simp; omega
  have d2 : decide (1073741824 < i) = false := by simp; omega
  obtain ⟨h0, hk0⟩ := win_first h (by decide) i
  go_enter Try.func21, Try.ntmps21
  go_wp2_with fail
  refine (place_c i n₀ b size cap i ao l _ h0 hr hl).mono ?_
  rintro e w1 ⟨rfl, hB⟩
  rw [K.out]
  have h1 := h0.old hB
  have hd := delete2_c n₀ l.length cap 0 k ao (prs l) w1 h1.row (prs_one l) (Nat.zero_le _) hlo hl
  rw [Nat.zero_mul, List.take_zero, List.nil_append, ← prs_drop, Nat.zero_add] at hd
  have Hd : Hid (Calls Try.prog 31 #[.slice ao l.length cap, .int .i64 0, .int .i64 k] w1 fun e w' => e = .returned (.slice ao (l.length - k) cap) ∧
      w'.ownsRow n₀ 59 2 (.slice ao (l.length - k) cap) (l.length - k) (prs (l.drop k)) ∧ w1.grownBy w' (Value.ownBlock (.slice ao l.length cap))) := hd
  have E1 : Hid ((l.drop k).length = l.length - k) := List.length_drop
  have c2 : w1.cell? ⟨b, 2, none⟩ = some (.slice ao l.length cap) := by simpa using h1.cell 2
  clear hd h hr c1 f1 h0
  go_wp2_with (go_at_call 31; ((with_reducible refine Hd.out.mono ?_); rintro e w2 ⟨rfl, hown, hg⟩; obtain ⟨hk, hblk⟩ := cut_step h1 (by decide) hown hg; have c3 : w2.cell? ⟨b, 2, none⟩ = some (.slice ao l.length cap) := (World.cell?_of_block hblk).trans c2; have f3 : w2.frozen? ⟨b, 2, none⟩ = false := (World.frozen?_of_block hblk).trans (h1.frozen 2)))
  go_ret
  obtain ⟨hh, hk2⟩ := h1.stored (by decide) hk hblk hown
  refine ⟨rfl, ?_, hk0.trans (keepsOld hB hk2) (fun _ _ e => e)⟩
  show Held _ _ _ _ _ _ _ _ _ _ _
  rw [E1.out]
  exact hh

end Go.Proofs.Ytkeedegbfpenjaa.Ru
