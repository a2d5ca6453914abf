/- What Right of layer 7 (wire) returns: plain facts, and a kind of none. -/
import Derived.Test.YtnjmmmclelmeiaaWrFill
import Derived.Deep.RegionWith
namespace Go.Proofs.Ytnjmmmclelmeiaa.Wr
open Go.RowKit Go.Proofs.Ytnjmmmclelmeiaa.Fx Go.Proofs.Ytnjmmmclelmeiaa.Pk

/-- does it have a field that its kind doesn't name? -/
def strayB (k : Int) (b0 b1 b2 b3 b4 b5 : Bool) : Bool :=
  if k = 1 ∨ k = 2 then b1 || b2 || b3 || b4 || b5 else if k = 3 then b0 || b4 || b5 else if k = 4 then b0 || b2 || b3 || b5 else if k = 5 then b0 || b1 || b3 || b4 || b5 else if k = 6 then b0 || b2 || b3 || b4 else b0 || b1 || b2 || b3 || b4 || b5
theorem stray_is (k : Int) (hk : 1 ≤ k ∧ k ≤ 7) (b0 b1 b2 b3 b4 b5 : Bool) : (bits .andNot .u64 (fillB b0 b1 b2 b3 b4 b5) (namedI k) != 0) = strayB k b0 b1 b2 b3 b4 b5 := by
  have hk : k = 1 ∨ k = 2 ∨ k = 3 ∨ k = 4 ∨ k = 5 ∨ k = 6 ∨ k = 7 := by omega
  rcases hk with rfl | rfl | rfl | rfl | rfl | rfl | rfl <;> revert b0 b1 b2 b3 b4 b5 <;> decide +kernel

theorem neB (n : Nat) : ((n : Int) != 0) = decide (n ≠ 0) := by
  rw [Bool.eq_iff_iff]; simp
theorem neI (n : Int) : (n != 0) = decide (n ≠ 0) := by
  rw [Bool.eq_iff_iff]; simp
def strayD (m : Dg) : Bool := strayB m.kind ((m.nonce : Int) != 0) ((m.serial : Int) != 0) ((m.ack : Int) != 0) (decide (0 < m.inputs.length)) ((m.sum : Int) != 0) (m.lead != 0)
/-- when it may be, in the program's order. -/
theorem right_parts (m : Dg) (hk : 1 ≤ m.kind ∧ m.kind ≤ 7) : rightB m = (!strayD m && !(decide (m.kind = 3) && decide (m.inputs.length = 0)) && fitB m.inputs && decide (-1000 ≤ m.lead ∧ m.lead ≤ 1000)) := by
  rw [Bool.eq_iff_iff]
  unfold rightB
  rw [decide_eq_true_iff]
  unfold strayD strayB RightD
  obtain ⟨k, n, s, a, l, u, d⟩ := m
  dsimp only at hk ⊢
  rw [neB, neB, neB, neB, neI]
  generalize fitB l = f
  generalize l.length = L
  have hk : k = 1 ∨ k = 2 ∨ k = 3 ∨ k = 4 ∨ k = 5 ∨ k = 6 ∨ k = 7 := by omega
  rcases hk with rfl | rfl | rfl | rfl | rfl | rfl | rfl
  all_goals
    cases f
    · simp
    · simp
      omega

/-- what only makes memory, or draws. -/
theorem bdrew {n : Nat} {a b : World} (q : Nat) (h : Below n a b) : Below n a (b.drewN q) := ⟨h.os, h.tape, h.output, h.size, h.block⟩
theorem bdrew1 {n : Nat} {a b : World} (h : Below n a b) : Below n a b.drew := ⟨h.os, h.tape, h.output, h.size, h.block⟩
theorem ball {a b : World} (o : Obj) (h : Below a.heap.size a b) : Below a.heap.size a (b.alloc o) := h.alloc h.size o

theorem quiet_c {P : Program} {f : FuncId} {args : Array Value} {w : World} {n : Nat} {v : Value} (h : Calls P f args (w.drewN n) fun e w' => e = .returned v ∧ w.drewN n = w') : Calls P f args (w.drewN n) fun e w'' => e = .returned v ∧ ∃ m, w'' = w.drewN m :=
  h.mono fun _ _ ⟨he, hm⟩ => ⟨he, n, hm.symm⟩

theorem filled_d (m : Dg) (ao : Option Addr) (L cap : Nat) (hL : m.inputs.length = L) (w : World) :
    Calls Try.prog 25 #[.agg #[.int .i64 m.kind, .int .u32 (m.nonce : Int), .int .u16 (m.serial : Int), .int .u16 (m.ack : Int), .slice ao L cap, .int .u32 (m.sum : Int), .int .i64 m.lead]] w fun r w' =>
      r = .returned (.int .u64 (fillB ((m.nonce : Int) != 0) ((m.serial : Int) != 0) ((m.ack : Int) != 0) (decide (0 < m.inputs.length)) ((m.sum : Int) != 0) (m.lead != 0))) ∧ w' = w.alloc (.cells #[.int .i64 m.kind, .int .u32 (m.nonce : Int), .int .u16 (m.serial : Int), .int .u16 (m.ack : Int), .slice ao L cap, .int .u32 (m.sum : Int), .int .i64 m.lead] 26) := by
  rw [hL]
  exact filled_c m.kind m.nonce m.serial m.ack m.sum m.lead ao L cap w

set_option maxHeartbeats 1000000 in
theorem right_kind (m : Dg) (ao : Option Addr) (L cap : Nat) (w : World) (hk : ¬ (1 ≤ m.kind ∧ m.kind ≤ 7)) :
    Calls Try.prog 9 #[.agg (cellsD m (.slice ao L cap))] w fun e w' => e = .returned (.bool false) ∧ Below w.heap.size w w' := by
  have HK := hid (fun W => isKind_c m.kind W)
  rw [show decide (1 ≤ m.kind ∧ m.kind ≤ 7) = false by simpa using hk] at HK
  clear hk
  go_enter Try.func9, Try.ntmps9
  go_wp2_with fail
  go_quiet (first | (go_at_call 24; exact quiet_c (HK.out _)))
  go_wp2_with fail
  go_ret
  refine ⟨rfl, ?_⟩
  repeat (first | exact Below.refl _ _ | apply bdrew | apply bdrew1 | apply ball)

end Go.Proofs.Ytnjmmmclelmeiaa.Wr
