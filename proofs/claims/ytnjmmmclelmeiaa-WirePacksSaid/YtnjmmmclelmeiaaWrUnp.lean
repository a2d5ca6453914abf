/- What Unpack of layer 7 (wire) returns. -/
import Derived.Test.YtnjmmmclelmeiaaWrRd
import Derived.Test.YtnjmmmclelmeiaaWrRdX
import Derived.Test.YtnjmmmclelmeiaaWrRight
namespace Go.Proofs.Ytnjmmmclelmeiaa.Wr
open Go.RowKit Go.Proofs.Ytnjmmmclelmeiaa.Fx Go.Proofs.Ytnjmmmclelmeiaa.Pk

/-- what bytes, opened, tell: (m, ok) is read of t. -/
def Says (t : List UInt8) (m : Dg) (ok : Bool) : Prop := (ok = true → RightD m → IsD t m) ∧ ((ok = false ∨ ¬ RightD m) → ∀ m', ¬ IsD t m')
theorem says_of {c : UInt8} {r : List UInt8} : Says (80 :: c :: r) (parseD (c.toNat : Int) r).1 (okD (c.toNat : Int) r) := ⟨fun h h' => parse_is h h', fun h m' => parse_none h m'⟩

theorem two_list (s : ByteArray) (h2 : ¬ s.size < 2) : s.data.toList = s[0] :: s[1] :: s.data.toList.drop 2 := by
  have e0 := drop_cons s 0 (by omega)
  have e1 := drop_cons s 1 (by omega)
  rw [List.drop_zero] at e0
  exact e0.trans (congrArg (s[0] :: ·) e1)

theorem read_c (s : ByteArray) (w : World) (hs : s.size ≤ 1073741824) :
    Calls Try.prog 30 #[.string s] w fun e w' => ∃ v m ok, e = .returned (.tuple #[v, .bool ok]) ∧ Holds w' v m ∧ Below w.heap.size w w' ∧ Says s.data.toList m ok := by
  by_cases h : s.size < 2 ∨ ∃ h0 : 0 < s.size, s[0] ≠ 80
  · refine (read_no s w hs h).mono ?_
    rintro e w' ⟨rfl, hb⟩
    refine ⟨_, zeroD, false, rfl, ⟨none, 0, 0, rfl, Rd.nil _, zero_in⟩, hb, ⟨fun h => Bool.noConfusion h, fun _ m' => no_head ?_ m'⟩⟩
    intro c r e
    rcases h with h | ⟨h0, h⟩
    · have := congrArg List.length e
      rw [← Lib.size_eq] at this
      simp at this
      omega
    · by_cases h2 : s.size < 2
      · have := congrArg List.length e
        rw [← Lib.size_eq] at this
        simp at this
        omega
      · rw [two_list s h2] at e
        injection e with e _
        exact h e
  · have h2 : ¬ s.size < 2 := fun c => h (.inl c)
    have h0 : s[0] = 80 := by
      by_cases c : s[0] = 80
      · exact c
      · exact absurd (.inr ⟨by omega, c⟩) h
    have h80 : ((s[0].toNat : Int) != 80) = false := by rw [h0]; rfl
    have hl := two_list s h2
    rw [h0] at hl
    have hsay : Says s.data.toList (parseD (s[1].toNat : Int) (s.data.toList.drop 2)).1 (okD (s[1].toNat : Int) (s.data.toList.drop 2)) := by
      have := says_of (c := s[1]) (r := s.data.toList.drop 2)
      rw [← hl] at this
      exact this
    generalize hk : (s[1].toNat : Int) = k at hsay
    by_cases hc : 1 ≤ k ∧ k ≤ 6
    · have hk6 : k = 1 ∨ k = 2 ∨ k = 3 ∨ k = 4 ∨ k = 5 ∨ k = 6 := by omega
      rcases hk6 with rfl | rfl | rfl | rfl | rfl | rfl
      · exact (read_k1 s w hs h2 h80 hk).mono fun e w' ⟨v, he, hv, hb⟩ => ⟨v, _, _, he, hv, hb, hsay⟩
      · exact (read_k2 s w hs h2 h80 hk).mono fun e w' ⟨v, he, hv, hb⟩ => ⟨v, _, _, he, hv, hb, hsay⟩
      · exact (read_k3 s w hs h2 h80 hk).mono fun e w' ⟨v, he, hv, hb⟩ => ⟨v, _, _, he, hv, hb, hsay⟩
      · exact (read_k4 s w hs h2 h80 hk).mono fun e w' ⟨v, he, hv, hb⟩ => ⟨v, _, _, he, hv, hb, hsay⟩
      · exact (read_k5 s w hs h2 h80 hk).mono fun e w' ⟨v, he, hv, hb⟩ => ⟨v, _, _, he, hv, hb, hsay⟩
      · exact (read_k6 s w hs h2 h80 hk).mono fun e w' ⟨v, he, hv, hb⟩ => ⟨v, _, _, he, hv, hb, hsay⟩
    · exact (read_kx s w k hs h2 h80 hk hc).mono fun e w' ⟨v, he, hv, hb⟩ => ⟨v, _, _, he, hv, hb, hsay⟩

/-- do the last four bytes seal the others? -/
def Sealed (s : List UInt8) : Prop := Sm.fourL (Sm.ofI (s.take (s.length - 4))) = s.drop (s.length - 4)
/-- what bytes tell: a datagram, or which error. -/
def TellD (s : List UInt8) (m : Dg) (c : Int) : Prop :=
  (c = 3 ∧ m = zeroD ∧ s.length < 4) ∨ (c = 15 ∧ m = zeroD ∧ ¬ s.length < 4 ∧ ¬ Sealed s) ∨ (c = 4 ∧ m = zeroD ∧ ¬ s.length < 4 ∧ Sealed s ∧ ∀ m', ¬ IsD (s.take (s.length - 4)) m') ∨ (c = 0 ∧ ¬ s.length < 4 ∧ Sealed s ∧ IsD (s.take (s.length - 4)) m)
theorem tell_one {s : List UInt8} {m m' : Dg} {c c' : Int} (h : TellD s m c) (h' : TellD s m' c') : m = m' ∧ c = c' := by
  rcases h with ⟨rfl, rfl, h1⟩ | ⟨rfl, rfl, h1, h2⟩ | ⟨rfl, rfl, h1, h2, h3⟩ | ⟨rfl, h1, h2, h3⟩ <;> rcases h' with ⟨rfl, rfl, k1⟩ | ⟨rfl, rfl, k1, k2⟩ | ⟨rfl, rfl, k1, k2, k3⟩ | ⟨rfl, k1, k2, k3⟩
  all_goals first | exact ⟨rfl, rfl⟩ | exact absurd h1 k1 | exact absurd k1 h1 | exact absurd h2 k2 | exact absurd k2 h2 | exact absurd k3 (h3 _) | exact absurd h3 (k3 _) | exact ⟨is_inj h3 k3, rfl⟩
/-- a call that tells what bytes tell. -/
def Unp (s : List UInt8) (w : World) (e : Ending) (w' : World) : Prop := ∃ m c ao L cap, e = .returned (.tuple #[.agg (cellsD m (.slice ao L cap)), .int .i64 c]) ∧ Rd w' (.slice ao L cap) m.inputs ∧ InD m ∧ TellD s m c ∧ Below w.heap.size w w'
theorem unp_zero {s : List UInt8} {w w' : World} {c : Int} (ht : TellD s zeroD c) (hb : Below w.heap.size w w') : Unp s w (.returned (.tuple #[.agg (cellsD zeroD (.slice none 0 0)), .int .i64 c])) w' := ⟨zeroD, c, none, 0, 0, rfl, Rd.nil _, zero_in, ht, hb⟩
theorem Box.fin {W0 W : World} {B : Nat} {m0 m : Dg} {u0 : Value} {ao : Option Addr} {L cap : Nat} (h : Box W B m0 u0) (hu : ∀ k x, u0 ≠ .int k x) (hv : Rd W (.slice ao L cap) m.inputs) (hb : Below B W0 W) (hle : B ≤ W.heap.size) :
    Box (stored W B m (.slice ao L cap)) B m (.slice ao L cap) ∧ Rd (stored W B m (.slice ao L cap)) (.slice ao L cap) m.inputs ∧ Below B W0 (stored W B m (.slice ao L cap)) := by
  have h1 := set7 h m (.slice ao L cap)
  have h2 := only7 W B m (.slice ao L cap)
  have h3 := h.rd hu hv h2
  exact ⟨h1, h3, hb.trans (h2.below (Nat.le_refl _) hle)⟩
theorem Box.lt {w : World} {b : Nat} {m : Dg} {v : Value} (h : Box w b m v) : b < w.heap.size := (Array.getElem?_eq_some_iff.1 h).1

set_option maxHeartbeats 2000000 in
theorem unpack_short (s : ByteArray) (w : World) (h : s.size < 4) :
    Calls Try.prog 11 #[.string s] w (Unp s.data.toList w) := by
  have HT : Hid (TellD s.data.toList zeroD 3) := .inl ⟨rfl, rfl, by rw [← Lib.size_eq]; exact h⟩
  go_enter Try.func11, Try.ntmps11
  go_wp2_with (go_at_call 29; ((with_reducible refine (Sm.open_short s _ h).mono ?_); rintro e w' ⟨rfl, rfl⟩))
  go_returns
  exact unp_zero HT.out (box_below w _)

set_option maxHeartbeats 2000000 in
theorem unpack_sum (s : ByteArray) (k : Nat) (w : World) (hk : s.size = k + 4) (hs : k ≤ 1073741824) (hn : Sm.fourL (Sm.ofI (s.data.toList.take k)) ≠ s.data.toList.drop k) :
    Calls Try.prog 11 #[.string s] w (Unp s.data.toList w) := by
  have hkl : s.data.toList.length = k + 4 := by rw [← Lib.size_eq]; exact hk
  have HT : Hid (TellD s.data.toList zeroD 15) := .inr (.inl ⟨rfl, rfl, by omega, by unfold Sealed; rw [hkl]; exact hn⟩)
  have HO := hid (fun W => Sm.open_no s k W hk hs hn)
  clear hn hkl
  go_enter Try.func11, Try.ntmps11
  go_wp2_with (go_at_call 29; ((with_reducible refine (HO.out _).mono ?_); rintro e y ⟨rfl, hy⟩; have hB := hid ((Box.new w zeroD (.slice none 0 0)).below hy); obtain ⟨c0, c1, c2, c3, c4, c5, c6⟩ := hB.out.cells; have f0 := hB.out.frozen; have hby := hid (bt (box_below w _) hy); clear hy))
  have hF := Box.fin (m := zeroD) hB.out (by intro k x; simp) (Rd.nil _) hby.out hby.out.size
  obtain ⟨q0, q1, q2, q3, q4, q5, q6⟩ := hF.1.cells
  refine bodyPost_ret (results_msg rfl _ _ w.heap.size rfl _ _ _ _ _ _ _ q0 q1 q2 q3 q4 q5 q6) rfl ?_
  exact unp_zero HT.out hF.2.2
theorem sealed_of {s : ByteArray} {k : Nat} (hk : s.size = k + 4) : s.data.toList.length - 4 = k := by rw [← Lib.size_eq]; omega
theorem head_list (s : ByteArray) (k : Nat) : (s.extract 0 k).data.toList = s.data.toList.take k := by rw [← ByteArray.toList_eq, Lib.extract_toList]; simp

set_option maxHeartbeats 4000000 in
theorem unpack_yes (s : ByteArray) (k : Nat) (w : World) (hk : s.size = k + 4) (hs : k ≤ 1073741824) (hn : Sm.fourL (Sm.ofI (s.data.toList.take k)) = s.data.toList.drop k) :
    Calls Try.prog 11 #[.string s] w (Unp s.data.toList w) := by
  have hkl : s.data.toList.length = k + 4 := by rw [← Lib.size_eq]; exact hk
  have hkm : s.data.toList.length - 4 = k := by omega
  have hT4 : Hid ((∀ m', ¬ IsD (s.data.toList.take k) m') → TellD s.data.toList zeroD 4) := fun h => .inr (.inr (.inl ⟨rfl, rfl, by omega, by unfold Sealed; rw [hkm]; exact hn, by rw [hkm]; exact h⟩))
  have hT0 : Hid (∀ m, IsD (s.data.toList.take k) m → TellD s.data.toList m 0) := fun m h => .inr (.inr (.inr ⟨rfl, by omega, by unfold Sealed; rw [hkm]; exact hn, by rw [hkm]; exact h⟩))
  have HO := hid (fun W => Sm.open_yes s k W hk hs hn)
  have HR := hid (fun W => read_c (s.extract 0 k) W (by rw [ByteArray.size_extract]; omega))
  rw [head_list] at HR
  obtain ⟨S, hS⟩ : ∃ S, S = s.extract 0 k := ⟨_, rfl⟩
  rw [← hS] at HO HR
  clear hn hkl hkm hS
  go_enter Try.func11, Try.ntmps11
  go_upto_region 5 with (first
    | (go_at_call 29; ((with_reducible refine (HO.out _).mono ?_); rintro e y ⟨rfl, hy⟩; have hB := hid ((Box.new w zeroD (.slice none 0 0)).below hy); have hby := hid (bt (box_below w _) hy); clear hy))
    | (go_at_call 30; ((with_reducible refine (HR.out _).mono ?_); rintro e y2 ⟨v, m, ok, rfl, ⟨ao, L, cap, rfl, hrd, hin⟩, hy2, hsay⟩; have hB2 := hid (hB.out.below hy2); have hby2 := hid (bt hby.out hy2); clear hy2)))
  have hal := box_below y2 (.cells (cellsD m (.slice ao L cap)) 26)
  have hB3 := hid (hB2.out.below hal)
  have hby3 := hid (bt hby2.out hal)
  have hX3 := hid (Box.new y2 m (.slice ao L cap))
  have hrd3 := hid (hrd.below hal)
  have HIN := hid hin
  obtain ⟨c0, c1, c2, c3, c4, c5, c6⟩ := hB3.out.cells
  have f0 := hB3.out.frozen
  clear hal hrd
  cases ok with
  | false =>
    have HT := hid (hT4.out (hsay.2 (.inl rfl)))
    clear hsay
    go_wp2_with fail
    have hF := Box.fin (m := zeroD) hB3.out (by intro k x; simp) (Rd.nil _) hby3.out hby3.out.size
    obtain ⟨q0, q1, q2, q3, q4, q5, q6⟩ := hF.1.cells
    refine bodyPost_ret (results_msg rfl _ _ w.heap.size rfl _ _ _ _ _ _ _ q0 q1 q2 q3 q4 q5 q6) rfl ?_
    exact unp_zero HT.out hF.2.2
  | true =>
    have HQ := hid (right_c (.agg (cellsD m (.slice ao L cap))) m (y2.alloc (.cells (cellsD m (.slice ao L cap)) 26)) ⟨ao, L, cap, rfl, hrd3.out, hin⟩)
    clear hin
    by_cases hR : RightD m
    · rw [right_yes hR] at HQ
      have HT := hid (hT0.out m (hsay.1 rfl hR))
      clear hsay hR
      go_wp2_with (go_at_call 9; ((with_reducible refine HQ.out.mono ?_); rintro e y4 ⟨rfl, hy4⟩; have hB4 := hid (hB3.out.below hy4); have hX4 := hid (hX3.out.below hy4); have hby4 := hid (bt hby3.out hy4); have hrd4 := hid (hrd3.out.below hy4); obtain ⟨d0, d1, d2, d3, d4, d5, d6⟩ := hB4.out.cells; have f4 := hB4.out.frozen; obtain ⟨x0, x1, x2, x3, x4, x5, x6⟩ := hX4.out.cells; clear hy4))
      have hF := Box.fin (m := m) hB4.out (by intro k x; simp) hrd4.out hby4.out hby4.out.size
      obtain ⟨q0, q1, q2, q3, q4, q5, q6⟩ := hF.1.cells
      refine bodyPost_ret (results_msg rfl _ _ w.heap.size rfl _ _ _ _ _ _ _ q0 q1 q2 q3 q4 q5 q6) rfl ?_
      exact ⟨m, 0, ao, L, cap, rfl, hF.2.1, HIN.out, HT.out, hF.2.2⟩
    · rw [right_no hR] at HQ
      have HT := hid (hT4.out (hsay.2 (.inr hR)))
      clear hsay hR
      go_wp2_with (go_at_call 9; ((with_reducible refine HQ.out.mono ?_); rintro e y4 ⟨rfl, hy4⟩; have hB4 := hid (hB3.out.below hy4); have hby4 := hid (bt hby3.out hy4); obtain ⟨d0, d1, d2, d3, d4, d5, d6⟩ := hB4.out.cells; have f4 := hB4.out.frozen; clear hy4))
      have hF := Box.fin (m := zeroD) hB4.out (by intro k x; simp) (Rd.nil _) hby4.out hby4.out.size
      obtain ⟨q0, q1, q2, q3, q4, q5, q6⟩ := hF.1.cells
      refine bodyPost_ret (results_msg rfl _ _ w.heap.size rfl _ _ _ _ _ _ _ q0 q1 q2 q3 q4 q5 q6) rfl ?_
      exact unp_zero HT.out hF.2.2

theorem unpack_c (s : ByteArray) (w : World) (hs : s.size ≤ 1073741824) : Calls Try.prog 11 #[.string s] w (Unp s.data.toList w) := by
  by_cases h : s.size < 4
  · exact unpack_short s w h
  · obtain ⟨k, hk⟩ : ∃ k, s.size = k + 4 := ⟨s.size - 4, by omega⟩
    by_cases hn : Sm.fourL (Sm.ofI (s.data.toList.take k)) = s.data.toList.drop k
    · exact unpack_yes s k w hk (by omega) hn
    · exact unpack_sum s k w hk (by omega) hn
end Go.Proofs.Ytnjmmmclelmeiaa.Wr
