/- Datagrams in memory, and bytes that grow: what the calls of layer 7 (wire) and of its document share. -/
import Derived.Test.YtnjmmmclelmeiaaWrRightA
import Derived.Test.YtnjmmmclelmeiaaWrPut
import Derived.Test.YtnjmmmclelmeiaaPkRun
namespace Go.Proofs.Ytnjmmmclelmeiaa.Wr
open Go.RowKit Go.Proofs.Ytnjmmmclelmeiaa.Fx Go.Proofs.Ytnjmmmclelmeiaa.Pk

/-- block b holds the datagram m. -/
def Box (w : World) (b : Nat) (m : Dg) (v : Value) : Prop := w.heap[b]? = some (.cells (cellsD m v) 26 (0, 0))
theorem Box.new (w : World) (m : Dg) (v : Value) : Box (w.alloc (.cells (cellsD m v) 26)) w.heap.size m v := heap_alloc_new w _
theorem Box.below {w w' : World} {b : Nat} {m : Dg} {v : Value} (h : Box w b m v) (hb : Below w.heap.size w w') : Box w' b m v := by
  unfold Box at h ⊢
  rw [hb.block b (Array.getElem?_eq_some_iff.1 h).1]
  exact h
theorem Box.cells {w : World} {b : Nat} {m : Dg} {v : Value} (h : Box w b m v) : w.cell? ⟨b, 0, none⟩ = some (.int .i64 m.kind) ∧ w.cell? ⟨b, 1, none⟩ = some (.int .u32 (m.nonce : Int)) ∧ w.cell? ⟨b, 2, none⟩ = some (.int .u16 (m.serial : Int)) ∧ w.cell? ⟨b, 3, none⟩ = some (.int .u16 (m.ack : Int)) ∧ w.cell? ⟨b, 4, none⟩ = some v ∧ w.cell? ⟨b, 5, none⟩ = some (.int .u32 (m.sum : Int)) ∧ w.cell? ⟨b, 6, none⟩ = some (.int .i64 m.lead) := by
  have hc := fun j => cell_of_row w b j _ _ _ h
  refine ⟨?_, ?_, ?_, ?_, ?_, ?_, ?_⟩ <;> (rw [hc]; rfl)

theorem Own.two (w : World) (a c : UInt8) (x y : Int) (hx : (a.toNat : Int) = x) (hy : (c.toNat : Int) = y) : Own w.heap.size (.slice (some ⟨w.heap.size, 0, none⟩) 2 2) [a, c] w (w.alloc (.cells #[.int .u8 x, .int .u8 y] 5)) := by
  subst hx hy
  exact ⟨⟨rfl, .inr ⟨w.heap.size, 2, #[.int .u8 (a.toNat : Int), .int .u8 (c.toNat : Int)], (0, 0), rfl, Nat.le_refl _, heap_alloc_new w _, by simp, Nat.le_refl _, by unfold maxLen; omega, rfl, rfl⟩⟩, (Below.refl _ w).alloc (Nat.le_refl _) _, by simp⟩

/-- append of a string. -/
theorem append_str {ops : Array Oper} {rest : List Oper} {o : Oper} {a : Act} {Q : Exit → Act → World → Prop} {w : World} (hgd : o.guard = none) (s x : Operand)
    (ho : o.op = .call { callee := .builtin .append, args := #[s, x], argTypes := #[24, 9] })
    (B : Nat) (v : Value) (l k : List UInt8) (W0 : World) (hs : a.eval s = v) (h : Own B v l W0 w) (hx : a.eval x = .string ⟨k.toArray⟩) (hlen : l.length + k.length ≤ 140737488355328)
    (hK : ∀ v' w', Own B v' (l ++ k) W0 w' → wpList Try.prog ops Q rest (a.put o.dst v') w') : wpList Try.prog ops Q (o :: rest) a w := by
  obtain ⟨i0, hi, hz⟩ := Option.map_eq_some_iff.1 Pk.info_byte
  obtain ⟨hz0, hz1, hz2⟩ := Pk.info_parts hz
  refine Lib.wpList_append_text hgd s x _ _ ho B 5 i0 Try.underlying24 Try.underlying9 hi hz0 hz1 hz2 v l.length (Lib.byteCells l) hs W0 h ⟨k.toArray⟩ hx (by show l.length + k.toArray.size ≤ _; rw [List.size_toArray]; exact hlen) ?_
  intro v' w' ho'
  refine hK v' w' ?_
  unfold Own
  rw [List.length_append, Lib.byteCells_append]
  have e1 : (⟨k.toArray⟩ : ByteArray).size = k.length := by show k.toArray.size = _; rw [List.size_toArray]
  rw [e1] at ho'
  exact ho'

theorem own_str {B : Nat} {v : Value} {l : List UInt8} {W0 w : World} (h : Own B v l W0 w) (hl : 0 < l.length) : ∃ S : ByteArray, Hid (S = ⟨l.toArray⟩) ∧ (convert 24 9 v).run Try.prog w = .ok (.string S) w := ⟨_, hid rfl, h.string hl⟩
theorem ret_seal {s t : ByteArray} {n : Int} (h : s = t) : Ending.returned (.tuple #[.string (Sm.sealS s), .int .i64 n]) = .returned (.tuple #[.string (Sm.sealS t), .int .i64 n]) := by rw [h]
theorem bt {a b c : World} (h : Below a.heap.size a b) (k : Below b.heap.size b c) : Below a.heap.size a c := h.trans (k.mono h.size)
theorem arr_eq {l k : List UInt8} (h : l = k) : (⟨l.toArray⟩ : ByteArray) = ⟨k.toArray⟩ := by rw [h]
theorem arr_size (l : List UInt8) : (⟨l.toArray⟩ : ByteArray).size = l.length := by show l.toArray.size = _; rw [List.size_toArray]
theorem box_below (w : World) (o : Obj) : Below w.heap.size w (w.alloc o) := (Below.refl _ w).alloc (Nat.le_refl _) o

end Go.Proofs.Ytnjmmmclelmeiaa.Wr
