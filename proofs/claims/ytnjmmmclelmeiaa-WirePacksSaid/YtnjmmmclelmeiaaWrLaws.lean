/- Layer 7 (wire): what the laws share: awake, what a law keeps of its datagram, what packed bytes tell. -/
import Derived.Test.YtnjmmmclelmeiaaWrRU
import Derived.Test.YtnjmmmclelmeiaaWrPack
import Derived.Test.YtnjmmmclelmeiaaWrSame
namespace Go.Proofs.Ytnjmmmclelmeiaa.Wr
open Go.RowKit Go.Proofs.Ytnjmmmclelmeiaa.Fx Go.Proofs.Ytnjmmmclelmeiaa.Pk

theorem bye_right : RightD ⟨7, 0, 0, 0, [], 0, 0⟩ := by unfold RightD; decide
theorem bye_in : InD ⟨7, 0, 0, 0, [], 0, 0⟩ := by unfold InD; simp
theorem pack_l (v : Value) (m : Dg) (w : World) (S : ByteArray) (hS : S = Sm.sealS ⟨(msgL m).toArray⟩) (h : Holds w v m) (hr : RightD m) :
    Calls Try.prog 8 #[v] w fun e w' => e = .returned (.tuple #[.string S, .int .i64 0]) ∧ Below w.heap.size w w' := by
  subst hS
  exact pack_ok v m w h hr

theorem awake_c (w : World) :
    Calls Try.prog 7 #[] w fun e w' => e = .returned (.bool true) ∧ Below w.heap.size w w' := by
  obtain ⟨S, hS⟩ : ∃ S : ByteArray, S = Sm.sealS ⟨(msgL ⟨7, 0, 0, 0, [], 0, 0⟩).toArray⟩ := ⟨_, rfl⟩
  have hsz : S.size = 6 := by rw [hS, Sm.seal_size, arr_size]; rfl
  have HP := hid (pack_l (.agg (cellsD ⟨7, 0, 0, 0, [], 0, 0⟩ (.slice none 0 0))) ⟨7, 0, 0, 0, [], 0, 0⟩ w S hS ⟨none, 0, 0, rfl, Rd.nil _, bye_in⟩ bye_right)
  clear hS
  go_enter Try.func7, Try.ntmps7
  go_wp2_with (go_at_call 8; (refine HP.out.mono ?_; rintro e y ⟨rfl, hy⟩))
  go_ret
  exact ⟨rfl, hy⟩

/-- a law's own datagram, kept. -/
structure St (w : World) (b : Nat) (m : Dg) (ao : Option Addr) (L cap : Nat) (W : World) : Prop where
  box : Box W b m (.slice ao L cap)
  below : Below w.heap.size w W
theorem St.grow {w W W' : World} {b : Nat} {m : Dg} {ao : Option Addr} {L cap : Nat} (h : St w b m ao L cap W) (hb : Below W.heap.size W W') : St w b m ao L cap W' := ⟨h.box.below hb, bt h.below hb⟩
theorem St.holds {w W : World} {b : Nat} {m : Dg} {ao : Option Addr} {L cap : Nat} (h : St w b m ao L cap W) (hr : Rd w (.slice ao L cap) m.inputs) (hi : InD m) : Holds W (.agg (cellsD m (.slice ao L cap))) m := ⟨ao, L, cap, rfl, hr.below h.below, hi⟩
theorem St.new (w : World) (m : Dg) (ao : Option Addr) (L cap : Nat) : St w w.heap.size m ao L cap (w.alloc (.cells (cellsD m (.slice ao L cap)) 26)) := ⟨Box.new w m _, box_below w _⟩

/-- packed bytes tell their datagram. -/
theorem tell_pack (m : Dg) (hr : RightD m) (hi : InD m) (S : ByteArray) (hS : S = Sm.sealS ⟨(msgL m).toArray⟩) : TellD S.data.toList m 0 ∧ S.size = (msgL m).length + 4 := by
  subst hS
  have hsz : (Sm.sealS ⟨(msgL m).toArray⟩).size = (msgL m).length + 4 := by rw [Sm.seal_size, arr_size]
  have hl : (Sm.sealS ⟨(msgL m).toArray⟩).data.toList = msgL m ++ Sm.fourL (Sm.ofI (msgL m)) := Sm.seal_list ⟨(msgL m).toArray⟩
  refine ⟨.inr (.inr (.inr ⟨rfl, ?_, ?_, ?_⟩)), hsz⟩
  · rw [hl, List.length_append, Sm.four_len]; omega
  · unfold Sealed
    rw [hl, List.length_append, Sm.four_len, Nat.add_sub_cancel, List.take_left' rfl, List.drop_left' rfl]
  · rw [hl, List.length_append, Sm.four_len, Nat.add_sub_cancel, List.take_left' rfl]
    exact ⟨hr, hi, rfl⟩
end Go.Proofs.Ytnjmmmclelmeiaa.Wr
