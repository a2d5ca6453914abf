/- What sum.asBytes, Seal and Open, and the document's Seal, return; what they make lies in new memory. -/
import Derived.Test.YtihpboghamohkaaSmCalls
import Derived.Laws.IdiomStrings
import Derived.Laws.Concat
namespace Go.Proofs.Ytihpboghamohkaa.Sm
open Go.RowKit Go.Proofs.Ytihpboghamohkaa.Fx

/-- the cells of a sum's four bytes. -/
def fourV (n : Int) : Array Value := #[.int .u8 (n / 16777216), .int .u8 (n / 65536 % 256), .int .u8 (n / 256 % 256), .int .u8 (n % 256)]
theorem byte_nat (x : Int) (h : 0 ≤ x) : ((UInt8.ofNat x.toNat).toNat : Int) = x % 256 := by
  simp; omega
theorem four_cell (n : Int) (h0 : 0 ≤ n) (h1 : n < 4294967296) (w : World) (t : TypeId) (j : Nat) (hj : j < (fourL n).length) :
    (w.alloc (.cells (fourV n) t)).cell? ((⟨w.heap.size, 0, none⟩ : Addr).add j) = some (.int .u8 ((fourL n)[j].toNat : Int)) := by
  have ha : (⟨w.heap.size, 0, none⟩ : Addr).add j = ⟨w.heap.size, j, none⟩ := by simp [Addr.add]; omega
  rw [ha, World.cell?_alloc_mark]
  rw [four_len] at hj
  have hc : j = 0 ∨ j = 1 ∨ j = 2 ∨ j = 3 := by omega
  have b1 := byte_nat (n / 16777216) (by omega)
  have b2 := byte_nat (n / 65536) (by omega)
  have b3 := byte_nat (n / 256) (by omega)
  have b4 := byte_nat n h0
  rw [show n / 16777216 % 256 = n / 16777216 by omega] at b1
  rcases hc with rfl | rfl | rfl | rfl
  · show some (Value.int .u8 (n / 16777216)) = some (.int .u8 ((UInt8.ofNat (n / 16777216).toNat).toNat : Int)); rw [b1]
  · show some (Value.int .u8 (n / 65536 % 256)) = some (.int .u8 ((UInt8.ofNat (n / 65536).toNat).toNat : Int)); rw [b2]
  · show some (Value.int .u8 (n / 256 % 256)) = some (.int .u8 ((UInt8.ofNat (n / 256).toNat).toNat : Int)); rw [b3]
  · show some (Value.int .u8 (n % 256)) = some (.int .u8 ((UInt8.ofNat n.toNat).toNat : Int)); rw [b4]
theorem four_run (n : Int) (w : World) (h0 : 0 ≤ n) (h1 : n < 4294967296) :
    (convert 37 9 (.slice (some ⟨w.heap.size, 0, none⟩) 4 4)).run Try.prog (w.alloc (.cells #[.int .u8 (n / 16777216), .int .u8 (n / 65536 % 256), .int .u8 (n / 256 % 256), .int .u8 (n % 256)] 5)) = .ok (.string ⟨(fourL n).toArray⟩) (w.alloc (.cells #[.int .u8 (n / 16777216), .int .u8 (n / 65536 % 256), .int .u8 (n / 256 % 256), .int .u8 (n % 256)] 5)) :=
  run_convert_bytes_back (P := Try.prog) (w.alloc (.cells (fourV n) 5)) 37 9 5 ⟨w.heap.size, 0, none⟩ 4 (fourL n) Try.underlying37 Try.underlying5 Try.underlying9 (four_cell n h0 h1 w 5)

theorem bytes_c (n : Int) (w : World) (h0 : 0 ≤ n) (h1 : n < 4294967296) :
    Calls Try.prog 20 #[.int .u32 n] w fun e w' => e = .returned (.string ⟨(fourL n).toArray⟩) ∧ Below w.heap.size w w' := by
  have hr := four_run n w h0 h1
  go_enter Try.func20, Try.ntmps20
  go_wp2
  go_ret
  exact ⟨rfl, (Below.refl _ _).alloc (Nat.le_refl _) _⟩

/-- a string, sealed. -/
def sealS (s : ByteArray) : ByteArray := s ++ ⟨(fourL (ofI s.data.toList)).toArray⟩
theorem seal_size (s : ByteArray) : (sealS s).size = s.size + 4 := by unfold sealS; rw [ByteArray.size_append]; rfl

theorem of_bd (l : List UInt8) : 0 ≤ ofI l ∧ ofI l < 4294967296 := more_bd 1 l

theorem seal_c (s : ByteArray) (w : World) (hs : s.size + 4 ≤ maxLen) :
    Calls Try.prog 15 #[.string s] w fun e w' => e = .returned (.string (sealS s)) ∧ Below w.heap.size w w' := by
  obtain ⟨hb, hb1⟩ := of_bd s.data.toList
  have hadd : ∀ W : World, (Op.stringOp .add s ⟨(fourL (ofI s.data.toList)).toArray⟩).run Try.prog W = .ok (.string (sealS s)) W := fun W => run_string_add_sum W _ _ (by unfold maxLen at hs; show s.size + 4 ≤ _; omega)
  go_enter Try.func15, Try.ntmps15
  go_wp2_with (first
    | (go_at_call 8; ((with_reducible refine (of_c _ _ (by omega)).mono ?_); rintro e w' ⟨rfl, rfl⟩))
    | (go_at_call 20; ((with_reducible refine (bytes_c _ _ hb hb1).mono ?_); rintro e w' ⟨rfl, hw⟩)))
  go_ret
  exact ⟨rfl, hw⟩

theorem rseal_c (s : ByteArray) (w : World) (hs : s.size + 4 ≤ maxLen) :
    Calls Try.prog 16 #[.string s] w fun e w' => e = .returned (.string (sealS s)) ∧ Below w.heap.size w w' := by
  obtain ⟨hb, hb1⟩ := of_bd s.data.toList
  have hadd : ∀ W : World, (Op.stringOp .add s ⟨(fourL (ofI s.data.toList)).toArray⟩).run Try.prog W = .ok (.string (sealS s)) W := fun W => run_string_add_sum W _ _ (by unfold maxLen at hs; show s.size + 4 ≤ _; omega)
  have hr := four_run (ofI s.data.toList) w hb hb1
  go_enter Try.func16, Try.ntmps16
  go_wp2_with (go_at_call 9; ((with_reducible refine (rof_c _ _ (by omega)).mono ?_); rintro e w' ⟨rfl, rfl⟩))
  go_ret
  exact ⟨rfl, (Below.refl _ _).alloc (Nat.le_refl _) _⟩

end Go.Proofs.Ytihpboghamohkaa.Sm
