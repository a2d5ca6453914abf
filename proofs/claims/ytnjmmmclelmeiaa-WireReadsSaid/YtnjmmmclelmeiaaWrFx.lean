/- What fields of the document's layer 7 (wire) returns of bytes that tell no datagram. -/
import Derived.Test.YtnjmmmclelmeiaaWrF3
namespace Go.Proofs.Ytnjmmmclelmeiaa.Wr
open Go.RowKit Go.Proofs.Ytnjmmmclelmeiaa.Fx Go.Proofs.Ytnjmmmclelmeiaa.Pk

/-- fields tells none. -/
def Noth (w : World) (e : Ending) (w' : World) : Prop := e = .returned (.tuple #[.agg (cellsD zeroD (.slice none 0 0)), .bool false]) ∧ Below w.heap.size w w'

set_option maxHeartbeats 2000000 in
theorem fields_head (s : ByteArray) (w : World) (h : s.size < 2 ∨ ∃ h0 : 0 < s.size, s[0] ≠ 80) :
    Calls Try.prog 35 #[.string s] w (Noth w) := by
  by_cases h2 : s.size < 2
  · clear h
    go_enter Try.func35, Try.ntmps35
    go_wp2_with fail
    go_returns
    exact ⟨rfl, box_below w _⟩
  · have h0 : 0 < s.size := by omega
    have hne : ((s[0].toNat : Int) != 80) = true := by
      rcases h with h | ⟨_, h⟩
      · exact absurd h h2
      · simp
        intro e
        exact h (UInt8.toNat_inj.1 (by simpa using (by omega : s[0].toNat = 80)))
    clear h
    go_enter Try.func35, Try.ntmps35
    go_wp2_with fail
    go_returns
    exact ⟨rfl, box_below w _⟩

set_option maxRecDepth 100000 in
set_option maxHeartbeats 4000000 in
theorem fields_kind (s : ByteArray) (w : World) (k : Int) (h2 : ¬ s.size < 2) (h80 : ((s[0].toNat : Int) != 80) = false) (hk : (s[1].toNat : Int) = k) (hn : ¬ (1 ≤ k ∧ k ≤ 7)) :
    Calls Try.prog 35 #[.string s] w (Noth w) := by
  have hx := s[1].toNat_lt
  by_cases h1 : k < 1
  · clear hn
    go_enter Try.func35, Try.ntmps35
    go_wp2_with fail
    go_returns
    refine ⟨rfl, ?_⟩
    repeat (first | exact Below.refl _ _ | apply bdrew | apply bdrew1 | apply ball)
  · have h7 : 7 < k := by omega
    clear hn
    go_enter Try.func35, Try.ntmps35
    go_wp2_with fail
    go_returns
    refine ⟨rfl, ?_⟩
    repeat (first | exact Below.refl _ _ | apply bdrew | apply bdrew1 | apply ball)

set_option maxRecDepth 100000 in
set_option maxHeartbeats 4000000 in
theorem fields_short (s : ByteArray) (w : World) (k : Int) (h2 : ¬ s.size < 2) (h80 : ((s[0].toNat : Int) != 80) = false) (hk : (s[1].toNat : Int) = k) (hn : 1 ≤ k ∧ k ≤ 6) (hz : s.size - 2 < sizeN k) :
    Calls Try.prog 35 #[.string s] w (Noth w) := by
  have hk6 : k = 1 ∨ k = 2 ∨ k = 3 ∨ k = 4 ∨ k = 5 ∨ k = 6 := by omega
  rcases hk6 with rfl | rfl | rfl | rfl | rfl | rfl
  all_goals
    unfold sizeN at hz
    simp at hz
    clear hn
    go_enter Try.func35, Try.ntmps35
    go_wp2_with fail
    go_returns
    refine ⟨rfl, ?_⟩
    repeat (first | exact Below.refl _ _ | apply bdrew | apply bdrew1 | apply ball)

end Go.Proofs.Ytnjmmmclelmeiaa.Wr
