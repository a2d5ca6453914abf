/- What strings.Clone and sum.Open return, and what is new memory of them. -/
import Derived.Test.YtihpboghamohkaaSmSeal
import Derived.Lib.Strings
import Derived.Lib.Walk
import Derived.Lib.BufferWrite
import Derived.Lib.UnsafeStr
import Derived.Laws.MakeOwn
import Derived.Deep.RegionWith
namespace Go.Proofs.Ytihpboghamohkaa.Sm
open Go.RowKit Go.Proofs.Ytihpboghamohkaa.Fx

theorem info_byte : (Try.prog.info? 5).map (fun i => (i.zero, i.size, i.bytes)) = some (some (.int .u8 0), 1, 1) := by kernel_rfl
theorem cells_byte : Try.prog.cellsOf 5 = 1 := by kernel_rfl

set_option maxHeartbeats 1000000 in
theorem lite_c (s : ByteArray) (w : World) (hs : s.size ≤ 281474976710656) :
    Calls Try.prog 22 #[.string s] w fun e w' => e = .returned (.string s) ∧ Below w.heap.size w w' := by
  by_cases h0 : s.size = 0
  · have he : s = ⟨#[]⟩ := by
      apply ByteArray.ext
      exact Array.eq_empty_of_size_eq_zero h0
    subst he
    go_enter Try.func22, Try.ntmps22
    go_wp2
    go_ret
    exact ⟨rfl, Below.refl _ _⟩
  · obtain ⟨i0, hi, hz⟩ := Option.map_eq_some_iff.1 info_byte
    simp only [Prod.mk.injEq] at hz
    obtain ⟨hz0, hz1, hz2⟩ := hz
    have hinfo : (Try.prog.info? 5).map (·.size) = some 1 := by rw [hi]; simp [hz1]
    obtain ⟨M, hM⟩ : ∃ M, M = madeCells (Value.int .u8 0).cells (((s.size : Nat) : Int).toNat * i0.size) := ⟨_, rfl⟩
    have hMs : M.size = s.size := by rw [hM, size_madeCells, hz1]; simp
    have hmk : ∀ W : World, (Instr.makeSlice 37 (.int .i64 (s.size : Int)) (.int .i64 (s.size : Int))).run Try.prog W = .ok (.slice (some ⟨W.heap.size, 0, none⟩) s.size s.size) (W.alloc (.cells M 5)) := fun W => by
      have h := run_make (P := Try.prog) W 37 5 i0 (.int .u8 0) Try.underlying37 hi hz0 .i64 .i64 (s.size : Int) (s.size : Int) (by omega) (by omega) (by rw [hz2]; omega) (by omega)
      rw [← hM] at h
      simpa using h
    clear hM
    have hcp := Lib.run_copy_row_string (P := Try.prog) (w.alloc (.cells M 5)) 37 9 3 5 w.heap.size 0 s.size s.size s M 5 Try.underlying37 hinfo (heap_alloc_new w _) (Nat.le_refl _) (by omega)
    obtain ⟨Y, hY⟩ : ∃ Y, Y = (M.toList.take 0 ++ Lib.byteCells s.data.toList ++ M.toList.drop (0 + s.size)).toArray := ⟨_, rfl⟩
    rw [← hY] at hcp
    have hYl : Y.toList = Lib.byteCells s.data.toList := by
      rw [hY, List.toList_toArray, List.take_zero, List.nil_append, List.drop_of_length_le (by rw [Array.length_toList]; omega), List.append_nil]
    have hYs : Y.size = s.size := by rw [← Array.length_toList, hYl, Lib.byteCells_length, ← Lib.size_eq]
    have hgY : ((w.alloc (.cells M 5)).setRow w.heap.size Y).heap[w.heap.size]? = some (.cells Y 5 (0, 0)) := setRow_heap _ _ M _ 5 (0, 0) (heap_alloc_new w _)
    have hne : s.data.toList ≠ [] := fun e => h0 (by rw [Lib.size_eq, e]; rfl)
    have hUS := Lib.run_unsafeString_row (P := Try.prog) ((w.alloc (.cells M 5)).setRow w.heap.size Y) 44 3 9 5 Try.underlying44 cells_byte w.heap.size Y.size (by unfold World.shape?; rw [hgY]) s.data.toList hne (by rw [← Lib.size_eq]; omega) (by rw [← Lib.size_eq]; omega)
      (fun j x hx => Lib.cells_of_row hgY Y.size j _ (by rw [List.take_of_length_le (by rw [Array.length_toList]; exact Nat.le_refl _), hYl]; simp [Lib.byteCells, hx]))
    rw [← Lib.size_eq] at hUS
    clear hY
    go_enter Try.func22, Try.ntmps22
    go_wp2
    go_ret
    have hb1 : Below w.heap.size w (w.alloc (.cells M 5)) := (Below.refl _ w).alloc (Nat.le_refl _) _
    have hb2 : Below w.heap.size (w.alloc (.cells M 5)) ((w.alloc (.cells M 5)).setRow w.heap.size Y) := ⟨rfl, rfl, rfl, by simp, fun k hk => setRow_other _ _ _ _ (by omega)⟩
    exact ⟨rfl, Lib.below_freeze (hb1.trans hb2) (p := ⟨w.heap.size, 0, none⟩) (Nat.le_refl _) _⟩

theorem clone_c (s : ByteArray) (w : World) (hs : s.size ≤ 281474976710656) :
    Calls Try.prog 21 #[.string s] w fun e w' => e = .returned (.string s) ∧ Below w.heap.size w w' := by
  go_enter Try.func21, Try.ntmps21
  go_wp2_with (go_at_call 22; ((with_reducible refine (lite_c _ _ hs).mono ?_); rintro e w' ⟨rfl, hw⟩))
  go_ret
  exact ⟨rfl, hw⟩

theorem open_short (t : ByteArray) (w : World) (ht : t.size < 4) :
    Calls Try.prog 14 #[.string t] w fun e w' => e = .returned (.tuple #[.string ⟨#[]⟩, .int .i64 3]) ∧ w = w' := by
  go_enter Try.func14, Try.ntmps14
  go_wp2
  go_ret2
  exact ⟨rfl, rfl⟩

theorem tail_is (t : ByteArray) (k : Nat) (hk : t.size = k + 4) : (t.extract k (k + 4)).toList = t.data.toList.drop k := by
  rw [Lib.extract_toList, List.take_of_length_le]
  rw [List.length_drop, ← Lib.size_eq]; omega

set_option maxHeartbeats 1000000 in
theorem open_no (t : ByteArray) (k : Nat) (w : World) (hk : t.size = k + 4) (ht : k ≤ 1073741824) (hne : fourL (ofI (t.data.toList.take k)) ≠ t.data.toList.drop k) :
    Calls Try.prog 14 #[.string t] w fun e w' => e = .returned (.tuple #[.string ⟨#[]⟩, .int .i64 15]) ∧ Below w.heap.size w w' := by
  have hd : (fourL (ofI (t.data.toList.take k)) == (t.extract k (k + 4)).toList) = false := by rw [tail_is t k hk]; simpa using hne
  have hof := of_bd (t.data.toList.take k)
  have hsz : (t.extract 0 k).size ≤ maxLen := by rw [ByteArray.size_extract]; unfold maxLen; omega
  have Hb := hid hof
  have Hs := hid hsz
  clear hne hof hsz
  go_enter Try.func14, Try.ntmps14
  go_wp2_with fail
  go_region_with (first
    | (go_at_call 8; refine (of_c _ _ Hs.out).mono ?_; rintro e w' ⟨rfl, rfl⟩)
    | (go_at_call 20; refine (bytes_c _ _ Hb.out.1 Hb.out.2).mono ?_; rintro e w' ⟨rfl, hw⟩))
  all_goals
    go_wp2_with fail
    go_ret2
    exact ⟨rfl, hw.os, hw.tape, hw.output, hw.size, hw.block⟩

set_option maxHeartbeats 1000000 in
theorem open_yes (t : ByteArray) (k : Nat) (w : World) (hk : t.size = k + 4) (ht : k ≤ 1073741824) (he : fourL (ofI (t.data.toList.take k)) = t.data.toList.drop k) :
    Calls Try.prog 14 #[.string t] w fun e w' => e = .returned (.tuple #[.string (t.extract 0 k), .int .i64 0]) ∧ Below w.heap.size w w' := by
  have hd : (fourL (ofI (t.data.toList.take k)) == (t.extract k (k + 4)).toList) = true := by rw [tail_is t k hk]; simpa using he
  have hof := of_bd (t.data.toList.take k)
  have hsz : (t.extract 0 k).size ≤ 1073741824 := by rw [ByteArray.size_extract]; omega
  have Hb := hid hof
  have Hs := hid hsz
  clear he hof hsz
  go_enter Try.func14, Try.ntmps14
  go_wp2_with fail
  go_region_with (first
    | (go_at_call 8; refine (of_c _ _ (by have := Hs.out; unfold maxLen; omega)).mono ?_; rintro e w' ⟨rfl, rfl⟩)
    | (go_at_call 20; refine (bytes_c _ _ Hb.out.1 Hb.out.2).mono ?_; rintro e w' ⟨rfl, hw⟩))
  all_goals
    go_wp2_with (go_at_call 21; refine (clone_c _ _ (by have := Hs.out; omega)).mono ?_; rintro e w2 ⟨rfl, hw2⟩)
    go_ret2
    have hw3 : Below w.heap.size w _ := ⟨hw.os, hw.tape, hw.output, hw.size, hw.block⟩
    exact ⟨rfl, hw3.trans (hw2.mono hw3.size)⟩

end Go.Proofs.Ytihpboghamohkaa.Sm
