/- The statement SumSeals of layer 5 (sum), as a walk: the law, called with any bytes, returns true and leaves the old memory as it was. -/
import Derived.Test.YtnjmmmclelmeiaaSmOpen
namespace Go.Proofs.Ytnjmmmclelmeiaa.Sm
open Go.RowKit Go.Proofs.Ytnjmmmclelmeiaa.Fx

/-- what leaves all old memory as it was, one behind the other. -/
theorem btrans {a b c : World} (h : Below a.heap.size a b) (k : Below b.heap.size b c) : Below a.heap.size a c := h.trans (k.mono h.size)
theorem seal_list (s : ByteArray) : (sealS s).data.toList = s.data.toList ++ fourL (ofI s.data.toList) := by
  unfold sealS; rw [ByteArray.data_append]; simp
theorem seal_extract (s : ByteArray) : (sealS s).extract 0 s.size = s := by
  apply ByteArray.ext
  apply Array.ext'
  rw [← ByteArray.toList_eq, Lib.extract_toList, seal_list]
  simp
theorem open_seal (s : ByteArray) (W : World) (hs : s.size ≤ 1073741824) :
    Calls Try.prog 29 #[.string (sealS s)] W fun e w' => e = .returned (.tuple #[.string s, .int .i64 0]) ∧ Below W.heap.size W w' := by
  have h := open_yes (sealS s) s.size W (seal_size s) hs (by
    rw [seal_list, List.take_append_of_le_length (by rw [← Lib.size_eq]; omega), List.take_of_length_le (by rw [← Lib.size_eq]; omega), List.drop_append_of_le_length (by rw [← Lib.size_eq]; omega), List.drop_of_length_le (by rw [← Lib.size_eq]; omega), List.nil_append])
  rwa [seal_extract] at h
theorem seal_of (t : ByteArray) (k : Nat) (hk : t.size = k + 4) : (sealS (t.extract 0 k)).data.toList = t.data.toList ↔ fourL (ofI (t.data.toList.take k)) = t.data.toList.drop k := by
  have e : (t.extract 0 k).data.toList = t.data.toList.take k := by rw [← ByteArray.toList_eq, Lib.extract_toList]; simp
  rw [seal_list, e]
  constructor
  · intro h
    have h2 := congrArg (List.drop k) h
    rwa [List.drop_append_of_le_length (by rw [List.length_take, ← Lib.size_eq]; omega), List.drop_of_length_le (by rw [List.length_take]; omega), List.nil_append] at h2
  · intro h
    rw [h, List.take_append_drop]

end Go.Proofs.Ytnjmmmclelmeiaa.Sm
