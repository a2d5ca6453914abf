/- The statement SumSeals of layer 5 (sum), as a walk: the law, called with any bytes, returns true and leaves the old memory as it was. -/
import Derived.Test.YtihpboghamohkaaSmOpen
namespace Go.Proofs.Ytihpboghamohkaa.Sm
open Go.RowKit Go.Proofs.Ytihpboghamohkaa.Fx

/-- what leaves all old memory as it was, one behind the other. -/
theorem btrans {a b c : World} (h : Below a.heap.size a b) (k : Below b.heap.size b c) : Below a.heap.size a c := h.trans (k.mono h.size)
theorem seal_list (s : ByteArray) : (sealS s).data.toList = s.data.toList ++ fourL (ofI s.data.toList) := by
  unfold sealS; rw [ByteArray.data_append]; simp
theorem seal_extract (s : ByteArray) : (sealS s).extract 0 s.size = s := by
  apply ByteArray.ext
  apply Array.ext'
  rw [← ByteArray.toList_eq, Lib.extract_toList, seal_list]
  simp
theorem open_seal (s : ByteArray) (W : World) (hs : s.size ≤ 1073741824) :
    Calls Try.prog 14 #[.string (sealS s)] W fun e w' => e = .returned (.tuple #[.string s, .int .i64 0]) ∧ Below W.heap.size W w' := by
  have h := open_yes (sealS s) s.size W (seal_size s) hs (by
    rw [seal_list, List.take_append_of_le_length (by rw [← Lib.size_eq]; omega), List.take_of_length_le (by rw [← Lib.size_eq]; omega), List.drop_append_of_le_length (by rw [← Lib.size_eq]; omega), List.drop_of_length_le (by rw [← Lib.size_eq]; omega), List.nil_append])
  rwa [seal_extract] at h
theorem seal_of (t : ByteArray) (k : Nat) (hk : t.size = k + 4) : (sealS (t.extract 0 k)).data.toList = t.data.toList ↔ fourL (ofI (t.data.toList.take k)) = t.data.toList.drop k := by
  have e : (t.extract 0 k).data.toList = t.data.toList.take k := by rw [← ByteArray.toList_eq, Lib.extract_toList]; simp
  rw [seal_list, e]
  constructor
  · intro h
    have h2 := congrArg (List.drop k) h
    rwa [List.drop_append_of_le_length (by rw [List.length_take, ← Lib.size_eq]; omega), List.drop_of_length_le (by rw [List.length_take]; omega), List.nil_append] at h2
  · intro h
    rw [h, List.take_append_drop]

set_option maxHeartbeats 1000000 in
theorem seals_w (s t : ByteArray) (w : World) (hs : s.size ≤ maxLen) (ht : t.size ≤ maxLen) :
    Calls Try.prog 5 #[.string s, .string t] w fun e w' => e = .returned (.bool true) ∧ Below w.heap.size w w' := by
  unfold maxLen at hs ht
  by_cases h : 20000 < s.size
  · go_enter Try.func5, Try.ntmps5
    go_wp2_with (go_at_call 7; ((with_reducible refine (awake_c _).mono ?_); rintro e w' ⟨rfl, rfl⟩))
    go_ret
    exact ⟨rfl, Below.refl _ _⟩
  by_cases h2 : 20000 < t.size
  · go_enter Try.func5, Try.ntmps5
    go_wp2_with (go_at_call 7; ((with_reducible refine (awake_c _).mono ?_); rintro e w' ⟨rfl, rfl⟩))
    go_ret
    exact ⟨rfl, Below.refl _ _⟩
  by_cases h3 : t.size < 4
  · go_enter Try.func5, Try.ntmps5
    go_wp2_with (first
      | (go_at_call 7; ((with_reducible refine (awake_c _).mono ?_); rintro e w' ⟨rfl, rfl⟩))
      | (go_at_call 14; ((with_reducible refine (open_seal s _ (by omega)).mono ?_); rintro e w2 ⟨rfl, hw2⟩))
      | (go_at_call 14; ((with_reducible refine (open_short t _ h3).mono ?_); rintro e w' ⟨rfl, rfl⟩))
      | (go_at_call 15; first | ((with_reducible refine (seal_c s w (by unfold maxLen; omega)).mono ?_); rintro e w1 ⟨rfl, hw1⟩) | ((with_reducible refine (seal_c s w2 (by unfold maxLen; omega)).mono ?_); rintro e w3 ⟨rfl, hw3⟩))
      | (go_at_call 16; ((with_reducible refine (rseal_c s _ (by unfold maxLen; omega)).mono ?_); rintro e w4 ⟨rfl, hw4⟩)))
    go_ret
    exact ⟨rfl, btrans (btrans (btrans hw1 hw2) hw3) hw4⟩
  · obtain ⟨k, hk⟩ : ∃ k, t.size = k + 4 := ⟨t.size - 4, by omega⟩
    have hk' : k + 4 ≤ 20000 := by omega
    have z : (t.extract 0 k).size + 4 ≤ maxLen := by rw [ByteArray.size_extract]; unfold maxLen; omega
    have Z := hid z
    have hso := seal_of t k hk
    clear h2 h3 ht z
    by_cases he : fourL (ofI (t.data.toList.take k)) = t.data.toList.drop k
    · have Ho := hid (fun W => open_yes t k W hk (by omega) he)
      have hb : ((sealS (t.extract 0 k)).toList == t.toList) = true := by rw [ByteArray.toList_eq, ByteArray.toList_eq]; simpa using hso.2 he
      clear he hso
      go_enter Try.func5, Try.ntmps5
      go_wp2_with (first
        | (go_at_call 7; ((with_reducible refine (awake_c _).mono ?_); rintro e w' ⟨rfl, rfl⟩))
        | (go_at_call 14; ((with_reducible refine (open_seal s _ (by omega)).mono ?_); rintro e w2 ⟨rfl, hw2⟩))
        | (go_at_call 14; ((with_reducible refine (Ho.out _).mono ?_); rintro e w5 ⟨rfl, hw5⟩))
        | (go_at_call 15; first | ((with_reducible refine (seal_c s w (by unfold maxLen; omega)).mono ?_); rintro e w1 ⟨rfl, hw1⟩) | ((with_reducible refine (seal_c s w5 (by unfold maxLen; omega)).mono ?_); rintro e w3 ⟨rfl, hw3⟩))
        | (go_at_call 16; first | ((with_reducible refine (rseal_c s _ (by unfold maxLen; omega)).mono ?_); rintro e w4 ⟨rfl, hw4⟩) | ((with_reducible refine (rseal_c (t.extract 0 k) _ Z.out).mono ?_); rintro e w6 ⟨rfl, hw6⟩)))
      go_ret
      exact ⟨rfl, btrans (btrans (btrans (btrans (btrans hw1 hw2) hw5) hw3) hw4) hw6⟩
    · have Ho := hid (fun W => open_no t k W hk (by omega) he)
      have hb : ((sealS (t.extract 0 k)).toList == t.toList) = false := by
        rw [ByteArray.toList_eq, ByteArray.toList_eq, Bool.eq_false_iff]
        intro x
        exact he (hso.1 (by simpa using x))
      clear he hso
      go_enter Try.func5, Try.ntmps5
      go_wp2_with (first
        | (go_at_call 7; ((with_reducible refine (awake_c _).mono ?_); rintro e w' ⟨rfl, rfl⟩))
        | (go_at_call 14; ((with_reducible refine (open_seal s _ (by omega)).mono ?_); rintro e w2 ⟨rfl, hw2⟩))
        | (go_at_call 14; ((with_reducible refine (Ho.out _).mono ?_); rintro e w5 ⟨rfl, hw5⟩))
        | (go_at_call 15; first | ((with_reducible refine (seal_c s w (by unfold maxLen; omega)).mono ?_); rintro e w1 ⟨rfl, hw1⟩) | ((with_reducible refine (seal_c s w5 (by unfold maxLen; omega)).mono ?_); rintro e w3 ⟨rfl, hw3⟩))
        | (go_at_call 16; first | ((with_reducible refine (rseal_c s _ (by unfold maxLen; omega)).mono ?_); rintro e w4 ⟨rfl, hw4⟩) | ((with_reducible refine (rseal_c (t.extract 0 k) _ Z.out).mono ?_); rintro e w6 ⟨rfl, hw6⟩)))
      go_ret
      exact ⟨rfl, btrans (btrans (btrans (btrans (btrans hw1 hw2) hw5) hw3) hw4) hw6⟩

end Go.Proofs.Ytihpboghamohkaa.Sm
