/- strings.Clone returns the same bytes; what it makes lies in new memory. -/
import Derived.Test.YtfifoikphhjomaaCbMath
import Derived.Test.YtfifoikphhjomaaRows
import Derived.WalkKit
import Derived.Lib.BufferWrite
import Derived.Lib.UnsafeStr
import Derived.Laws.MakeOwn
namespace Go.Proofs.Ytfifoikphhjomaa.Cb
open Go.RowKit Go.Proofs.Ytfifoikphhjomaa.Rg
set_option linter.unusedVariables false

theorem info_u8 : (Try.prog.info? 5).map (fun i => (i.zero, i.size, i.bytes)) = some (some (.int .u8 0), 1, 1) := by kernel_rfl

/-- a row of made bytes, filled with a string's: the world, and what it holds. -/
theorem filled_row (w : World) (s : ByteArray) (M : Array Value) (t : TypeId) (hM : M.size = s.size) (hs : s.size ≤ 1048576) (h0 : s.size ≠ 0) {P : Program} (dT sT ty pt it st : TypeId)
    (hd : P.underlying dT = some (.slice t)) (hsz : (P.info? t).map (·.size) = some 1) (hc : P.cellsOf t = 1) (hp : P.underlying pt = some (.pointer t)) :
    ∃ W W' : World, (Builtin.copy_ #[dT, sT] ty #[.slice (some ⟨w.heap.size, 0, none⟩) s.size s.size, .string s]).run P (w.alloc (.cells M t)) = .ok (.int .i64 s.size) W ∧
      (Builtin.unsafeString_ #[pt, it] st #[.pointer (some ⟨w.heap.size, 0, none⟩), .int .i64 s.size]).run P W = .ok (.string s) W' ∧ Below w.heap.size w W' := by
  have hz : M.toList.take 0 ++ Lib.byteCells s.data.toList ++ M.toList.drop (0 + s.size) = Lib.byteCells s.data.toList := by
    rw [List.take_zero, List.nil_append, List.drop_of_length_le (by rw [Array.length_toList]; omega), List.append_nil]
  have h1 := Lib.run_copy_row_string (P := P) (w.alloc (.cells M t)) dT sT ty t w.heap.size 0 s.size s.size s M t hd hsz (heap_alloc_new w _) (Nat.le_refl _) (by omega)
  have hb : ((w.alloc (.cells M t)).setRow w.heap.size (M.toList.take 0 ++ Lib.byteCells s.data.toList ++ M.toList.drop (0 + s.size)).toArray).heap[w.heap.size]? = some (.cells (M.toList.take 0 ++ Lib.byteCells s.data.toList ++ M.toList.drop (0 + s.size)).toArray t (0, 0)) :=
    setRow_heap _ _ M _ t (0, 0) (heap_alloc_new w _)
  have hl : s.data.toList.length = s.size := (Lib.size_eq s).symm
  have h2 := Lib.run_unsafeString_row (P := P) ((w.alloc (.cells M t)).setRow w.heap.size (M.toList.take 0 ++ Lib.byteCells s.data.toList ++ M.toList.drop (0 + s.size)).toArray) pt it st t hp hc w.heap.size s.size
    (by unfold World.shape?; rw [hb]; simp [Lib.byteCells_length, hl, hM]) s.data.toList (fun e => h0 (by rw [← hl, e]; rfl)) (by omega) (by omega)
    (fun j x hx => by
      have := Lib.cells_of_row hb s.size j (.int .u8 x.toNat) (by rw [List.toList_toArray, hz, List.take_of_length_le (by rw [Lib.byteCells_length]; omega)]; simp [Lib.byteCells, hx])
      exact this)
  rw [hl] at h2
  refine ⟨_, _, h1, h2, Lib.below_freeze ?_ (p := ⟨w.heap.size, 0, none⟩) (Nat.le_refl _) _⟩
  have hb1 : Below w.heap.size w (w.alloc (.cells M t)) := (Below.refl _ w).alloc (Nat.le_refl _) _
  exact hb1.trans ⟨rfl, rfl, rfl, by simp, fun k hk => setRow_other _ _ _ _ (by omega)⟩

theorem lclone_c (s : ByteArray) (w : World) (hs : s.size ≤ 1048576) :
    Calls Try.prog 32 #[.string s] w fun e w' => e = .returned (.string s) ∧ Below w.heap.size w w' := by
  by_cases h0 : s.size = 0
  · have he : s = ⟨#[]⟩ := ByteArray.ext (Array.eq_empty_of_size_eq_zero h0)
    subst he
    go_enter Try.func32, Try.ntmps32
    go_wp2
    go_ret
    exact ⟨rfl, Below.refl _ _⟩
  · obtain ⟨i0, hi, hz0, hz1, hz2⟩ := info_parts info_u8
    obtain ⟨M, hM⟩ : ∃ M, M = madeCells (Value.int .u8 0).cells (((s.size : Nat) : Int).toNat * i0.size) := ⟨_, rfl⟩
    have hMs : M.size = s.size := by rw [hM, size_madeCells, hz1]; simp
    have hmk : (Instr.makeSlice 58 (.int .i64 (s.size : Int)) (.int .i64 (s.size : Int))).run Try.prog w = .ok (.slice (some ⟨w.heap.size, 0, none⟩) s.size s.size) (w.alloc (.cells M 5)) := by
      have h := run_make (P := Try.prog) w 58 5 i0 (.int .u8 0) Try.underlying58 hi hz0 .i64 .i64 (s.size : Int) (s.size : Int) (by omega) (by omega) (by rw [hz2]; omega) (by omega)
      rw [← hM] at h
      simpa using h
    obtain ⟨W, W', hcp, hus, hB⟩ := filled_row w s M 5 hMs hs h0 (P := Try.prog) 58 9 3 63 3 9 Try.underlying58 (by rw [hi]; simp [hz1]) (by kernel_rfl) Try.underlying63
    clear hM hMs hi hz0 hz1 hz2
    go_enter Try.func32, Try.ntmps32
    go_wp2
    go_ret
    exact ⟨rfl, hB⟩

theorem clone_c (s : ByteArray) (w : World) (hs : s.size ≤ 1048576) :
    Calls Try.prog 26 #[.string s] w fun e w' => e = .returned (.string s) ∧ Below w.heap.size w w' := by
  go_enter Try.func26, Try.ntmps26
  go_wp2_with (go_at_call 32; ((with_reducible refine (lclone_c _ _ hs).mono ?_); rintro e w' ⟨rfl, hB⟩))
  go_ret
  exact ⟨rfl, hB⟩

end Go.Proofs.Ytfifoikphhjomaa.Cb
