/- What fields of the document's layer 7 (wire) returns of a lead that is none. -/
import Derived.Test.YtnjmmmclelmeiaaWrFx
namespace Go.Proofs.Ytnjmmmclelmeiaa.Wr
open Go.RowKit Go.Proofs.Ytnjmmmclelmeiaa.Fx Go.Proofs.Ytnjmmmclelmeiaa.Pk

set_option maxRecDepth 100000 in
set_option maxHeartbeats 2000000 in
theorem fields_lead (s : ByteArray) (w : World) (hs : s.size ≤ 1073741824) (h2 : ¬ s.size < 2) (h80 : ((s[0].toNat : Int) != 80) = false) (hk : (s[1].toNat : Int) = 6) (hl : 5 ≤ s.size) (he : (rdN ((s.data.toList.drop 2).drop 2)).2.2 ≠ 0 ∨ 4000 < (rdN ((s.data.toList.drop 2).drop 2)).1) :
    Calls Try.prog 35 #[.string s] w (Noth w) := by
  have hrl : (s.data.toList.drop 2).length = s.size - 2 := by rw [List.length_drop, ← Lib.size_eq]
  obtain ⟨x1, hx1, hb1⟩ : ∃ x : Nat, Hid (x = gotN 2 (s.data.toList.drop 2)) ∧ x < 65536 := ⟨_, hid rfl, got2_bd _⟩
  have HN1 := hid (fun W => number_m ((s.extract 2 s.size).extract 0 2) x1 W (by have := piece_size s 0 2; omega) (by rw [piece_list, hx1.out]; unfold gotN; rw [if_neg (by omega)]; rfl))
  have HRd := hid (fun W => rread_c ((s.extract 2 s.size).extract 2 (s.size - 2)) W (by have := piece_tsize s 2; unfold maxLen; omega))
  rw [piece_tail] at HRd
  generalize rdN ((s.data.toList.drop 2).drop 2) = r at HRd he
  obtain ⟨q, nb, c⟩ := r
  rw [show rdV (q, nb, c) = .tuple #[.int .u64 (q : Int), .int .i64 (nb : Int), .int .i64 (c : Int)] from rfl] at HRd
  dsimp only at he
  clear hrl
  by_cases hc0 : c = 0
  · subst hc0
    have h4 : 4000 < q := by omega
    clear he
    go_enter Try.func35, Try.ntmps35
    go_wp2_with (first
      | (go_at_call 51; ((with_reducible refine (HN1.out _).mono ?_); rintro e w' ⟨rfl, rfl⟩))
      | (go_at_call 53; ((with_reducible refine (HRd.out _).mono ?_); rintro e w' ⟨rfl, rfl⟩)))
    go_returns
    refine ⟨rfl, ?_⟩
    repeat (first | exact Below.refl _ _ | apply bdrew | apply bdrew1 | apply ball)
  · have hc : ((c : Int) != 0) = true := by simp; omega
    clear he hc0
    go_enter Try.func35, Try.ntmps35
    go_wp2_with (first
      | (go_at_call 51; ((with_reducible refine (HN1.out _).mono ?_); rintro e w' ⟨rfl, rfl⟩))
      | (go_at_call 53; ((with_reducible refine (HRd.out _).mono ?_); rintro e w' ⟨rfl, rfl⟩)))
    go_returns
    refine ⟨rfl, ?_⟩
    repeat (first | exact Below.refl _ _ | apply bdrew | apply bdrew1 | apply ball)
end Go.Proofs.Ytnjmmmclelmeiaa.Wr
