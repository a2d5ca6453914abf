/- What read of layer 7 (wire) returns at a kind that names no fields. -/
import Derived.Test.YtnjmmmclelmeiaaWrRig
namespace Go.Proofs.Ytnjmmmclelmeiaa.Wr
open Go.RowKit Go.Proofs.Ytnjmmmclelmeiaa.Fx Go.Proofs.Ytnjmmmclelmeiaa.Pk

theorem ret_okv {v : Value} {a b : Bool} (h : a = b) : Ending.returned (.tuple #[v, .bool a]) = .returned (.tuple #[v, .bool b]) := by rw [h]

set_option maxRecDepth 100000 in
set_option maxHeartbeats 4000000 in
theorem read_kx (s : ByteArray) (w : World) (k : Int) (hs : s.size ≤ 1073741824) (h2 : ¬ s.size < 2) (h80 : ((s[0].toNat : Int) != 80) = false) (hk : (s[1].toNat : Int) = k) (hne : ¬ (1 ≤ k ∧ k ≤ 6)) :
    Calls Try.prog 30 #[.string s] w fun e w' => ∃ v, e = .returned (.tuple #[v, .bool (okD k (s.data.toList.drop 2))]) ∧ Holds w' v (parseD k (s.data.toList.drop 2)).1 ∧ Below w.heap.size w w' := by
  have hpd : Hid (parseD k (s.data.toList.drop 2) = (⟨k, 0, 0, 0, [], 0, 0⟩, s.data.toList.drop 2, false)) := by
    show _ = _
    unfold parseD
    rw [if_neg (by omega), if_neg (by omega), if_neg (by omega), if_neg (by omega), if_neg (by omega)]
  have hin : InD ⟨k, 0, 0, 0, [], 0, 0⟩ := by
    have hc := s[1].toNat_lt
    have := parse_in k (s.data.toList.drop 2) (by omega)
    rw [hpd.out] at this
    exact this
  have HI := hid hin
  have HN := hid (fun W => named_c k W)
  rw [show namedI k = 0 by unfold namedI; repeat' split <;> omega] at HN
  have hx := s[1].toNat_lt
  have hl : s.data.toList.length = s.size := (Lib.size_eq s).symm
  have HE : Hid (okD k (s.data.toList.drop 2) = decide (s.size = 2)) := by
    show _ = _
    unfold okD
    rw [hpd.out]
    by_cases h : s.size = 2
    · rw [List.drop_of_length_le (by omega)]; simp [h]
    · cases hd : s.data.toList.drop 2 with
      | nil => have := congrArg List.length hd; rw [List.length_drop] at this; simp at this; omega
      | cons x t => simp [h]
  clear hl hin hne
  by_cases h : s.size = 2
  · have hem : s.extract 2 s.size = ⟨#[]⟩ := by
      apply ByteArray.ext
      exact Array.eq_empty_of_size_eq_zero (by show (s.extract 2 s.size).size = 0; rw [ByteArray.size_extract]; omega)
    go_enter Try.func30, Try.ntmps30
    go_wp2_with (first
      | (go_at_call 17; (refine (HN.out _).mono ?_; rintro e w' ⟨rfl, rfl⟩))
      | (go_at_call 18; ((with_reducible refine (have_c _ _ false _ (by decide)).mono ?_); rintro e w' ⟨rfl, rfl⟩)))
    go_region
    go_wp2_with fail
    go_returns
    refine ⟨.agg (cellsD ⟨k, 0, 0, 0, [], 0, 0⟩ (.slice none 0 0)), ret_okv (by rw [HE.out]; simp [h]), ?_, ?_⟩
    · rw [hpd.out]; exact ⟨none, 0, 0, rfl, Rd.nil _, HI.out⟩
    · repeat (first | exact Below.refl _ _ | apply bdrew | apply bdrew1 | apply ball)
  · have hneB : ((s.extract 2 s.size).toList == ([] : List UInt8)) = false := by
      have hz : (s.extract 2 s.size).toList.length ≠ 0 := by rw [ByteArray.toList_eq, ← Lib.size_eq, ByteArray.size_extract]; omega
      cases hl : (s.extract 2 s.size).toList with
      | nil => rw [hl] at hz; simp at hz
      | cons x t => rfl
    have hem := hid h
    clear h
    go_enter Try.func30, Try.ntmps30
    go_wp2_with (first
      | (go_at_call 17; (refine (HN.out _).mono ?_; rintro e w' ⟨rfl, rfl⟩))
      | (go_at_call 18; ((with_reducible refine (have_c _ _ false _ (by decide)).mono ?_); rintro e w' ⟨rfl, rfl⟩)))
    go_region
    go_wp2_with fail
    go_returns
    refine ⟨.agg (cellsD ⟨k, 0, 0, 0, [], 0, 0⟩ (.slice none 0 0)), ret_okv (by rw [HE.out]; simp [hem.out]), ?_, ?_⟩
    · rw [hpd.out]; exact ⟨none, 0, 0, rfl, Rd.nil _, HI.out⟩
    · repeat (first | exact Below.refl _ _ | apply bdrew | apply bdrew1 | apply ball)
end Go.Proofs.Ytnjmmmclelmeiaa.Wr
