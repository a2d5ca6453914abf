/- What the small functions of layer 7 (wire) return: isKind, isLead, named, have, filled, sizeOf, put. -/
import Derived.Test.YtnjmmmclelmeiaaWrMath
import Derived.Test.YtnjmmmclelmeiaaPkStr
import Derived.Test.YtnjmmmclelmeiaaSmSeals
namespace Go.Proofs.Ytnjmmmclelmeiaa.Wr
open Go.RowKit Go.Proofs.Ytnjmmmclelmeiaa.Fx Go.Proofs.Ytnjmmmclelmeiaa.Pk

theorem isKind_c (k : Int) (w : World) :
    Calls Try.prog 24 #[.int .i64 k] w fun e w' => e = .returned (.bool (decide (1 ≤ k ∧ k ≤ 7))) ∧ w = w' := by
  by_cases h : 1 ≤ k
  · by_cases h2 : k ≤ 7
    · rw [show decide (1 ≤ k ∧ k ≤ 7) = true by simp; omega]
      go_enter Try.func24, Try.ntmps24
      go_wp2
      go_ret
      exact ⟨rfl, rfl⟩
    · rw [show decide (1 ≤ k ∧ k ≤ 7) = false by simp; omega]
      go_enter Try.func24, Try.ntmps24
      go_wp2
      go_ret
      exact ⟨rfl, rfl⟩
  · rw [show decide (1 ≤ k ∧ k ≤ 7) = false by simp; omega]
    go_enter Try.func24, Try.ntmps24
    go_wp2
    go_ret
    exact ⟨rfl, rfl⟩

theorem isLead_c (k : Int) (w : World) :
    Calls Try.prog 27 #[.int .i64 k] w fun e w' => e = .returned (.bool (decide (-1000 ≤ k ∧ k ≤ 1000))) ∧ w = w' := by
  by_cases h : -1000 ≤ k
  · by_cases h2 : k ≤ 1000
    · rw [show decide (-1000 ≤ k ∧ k ≤ 1000) = true by simp; omega]
      go_enter Try.func27, Try.ntmps27
      go_wp2
      go_ret
      exact ⟨rfl, rfl⟩
    · rw [show decide (-1000 ≤ k ∧ k ≤ 1000) = false by simp; omega]
      go_enter Try.func27, Try.ntmps27
      go_wp2
      go_ret
      exact ⟨rfl, rfl⟩
  · rw [show decide (-1000 ≤ k ∧ k ≤ 1000) = false by simp; omega]
    go_enter Try.func27, Try.ntmps27
    go_wp2
    go_ret
    exact ⟨rfl, rfl⟩

/-- the fields that a kind names, as bits. -/
def namedI (k : Int) : Int := if k = 1 ∨ k = 2 then 1 else if k = 3 then 14 else if k = 4 then 18 else if k = 5 then 4 else if k = 6 then 34 else 0
theorem named_c (k : Int) (w : World) :
    Calls Try.prog 17 #[.int .i64 k] w fun e w' => e = .returned (.int .u64 (namedI k)) ∧ w = w' := by
  by_cases h : 1 ≤ k ∧ k ≤ 6
  · have hk : k = 1 ∨ k = 2 ∨ k = 3 ∨ k = 4 ∨ k = 5 ∨ k = 6 := by omega
    rcases hk with rfl | rfl | rfl | rfl | rfl | rfl
    all_goals
      go_enter Try.func17, Try.ntmps17
      go_wp2
      go_ret
      exact ⟨rfl, rfl⟩
  · have h1 : (k == 1) = false := by simp; omega
    have h2 : (k == 2) = false := by simp; omega
    have h3 : (k == 3) = false := by simp; omega
    have h4 : (k == 4) = false := by simp; omega
    have h5 : (k == 5) = false := by simp; omega
    have h6 : (k == 6) = false := by simp; omega
    rw [show namedI k = 0 by unfold namedI; repeat' split <;> omega]
    clear h
    go_enter Try.func17, Try.ntmps17
    go_wp2
    go_ret
    exact ⟨rfl, rfl⟩

theorem have_c (a b : Int) (r : Bool) (w : World) (h : (bits .and .u64 a b != 0) = r) :
    Calls Try.prog 18 #[.int .u64 a, .int .u64 b] w fun e w' => e = .returned (.bool r) ∧ w = w' := by
  go_enter Try.func18, Try.ntmps18
  go_wp2
  go_ret
  exact ⟨rfl, rfl⟩

/-- a datagram's cells. -/
abbrev cellsD (m : Dg) (v : Value) : Array Value := #[.int .i64 m.kind, .int .u32 (m.nonce : Int), .int .u16 (m.serial : Int), .int .u16 (m.ack : Int), v, .int .u32 (m.sum : Int), .int .i64 m.lead]
/-- v is a datagram that reads as m. -/
def Holds (w : World) (v : Value) (m : Dg) : Prop := ∃ ao L cap, v = .agg (cellsD m (.slice ao L cap)) ∧ Rd w (.slice ao L cap) m.inputs ∧ InD m

/-- the fields that aren't zero, as bits. -/
def fillB (b0 b1 b2 b3 b4 b5 : Bool) : Int := (if b0 then 1 else 0) + (if b1 then 2 else 0) + (if b2 then 4 else 0) + (if b3 then 8 else 0) + (if b4 then 16 else 0) + (if b5 then 32 else 0)

set_option maxRecDepth 100000 in
theorem len16 (x : Int) (w : World) (h : x = 65535) :
    Calls Try.prog 55 #[.int .u32 x] w fun e w' => e = .returned (.int .i64 16) ∧ w = w' := by
  subst h
  go_enter Try.func55, Try.ntmps55
  go_wp2
  go_ret
  exact ⟨ret_int (by decide +kernel), rfl⟩

set_option maxRecDepth 100000 in
theorem len32 (x : Int) (w : World) (h : x = 4294967295) :
    Calls Try.prog 55 #[.int .u32 x] w fun e w' => e = .returned (.int .i64 32) ∧ w = w' := by
  subst h
  go_enter Try.func55, Try.ntmps55
  go_wp2
  go_ret
  exact ⟨ret_int (by decide +kernel), rfl⟩

theorem size4_c (w : World) :
    Calls Try.prog 38 #[] w fun e w' => e = .returned (.int .i64 4) ∧ w = w' := by
  go_enter Try.func38, Try.ntmps38
  go_wp2_with (go_at_call 55; ((with_reducible refine (len32 _ _ (by decide)).mono ?_); rintro e w' ⟨rfl, rfl⟩))
  go_ret
  exact ⟨rfl, rfl⟩

theorem size2_c (w : World) :
    Calls Try.prog 39 #[] w fun e w' => e = .returned (.int .i64 2) ∧ w = w' := by
  go_enter Try.func39, Try.ntmps39
  go_wp2_with (go_at_call 55; ((with_reducible refine (len16 _ _ (by decide)).mono ?_); rintro e w' ⟨rfl, rfl⟩))
  go_ret
  exact ⟨rfl, rfl⟩

end Go.Proofs.Ytnjmmmclelmeiaa.Wr
