/- fields of the document's layer 7 (wire): what it says, and plain facts. -/
import Derived.Test.YtnjmmmclelmeiaaWrRig
import Derived.Test.YtnjmmmclelmeiaaWrWord
import Derived.Test.YtnjmmmclelmeiaaWrRR1
import Derived.Test.YtnjmmmclelmeiaaWrRR2
import Derived.Test.YtnjmmmclelmeiaaWrRR3
import Derived.Test.YtnjmmmclelmeiaaWrRR4
import Derived.Test.YtnjmmmclelmeiaaWrRR5
import Derived.Test.YtnjmmmclelmeiaaWrRR6
import Derived.Test.YtnjmmmclelmeiaaWrRR7
import Derived.Test.YtnjmmmclelmeiaaPkRRef
namespace Go.Proofs.Ytnjmmmclelmeiaa.Wr
open Go.RowKit Go.Proofs.Ytnjmmmclelmeiaa.Fx Go.Proofs.Ytnjmmmclelmeiaa.Pk

theorem rright_c (m : Dg) (ao : Option Addr) (L cap : Nat) (w : World) (hr : Rd w (.slice ao L cap) m.inputs) :
    Calls Try.prog 10 #[.agg (cellsD m (.slice ao L cap))] w fun e w' => e = .returned (.bool (rightB m)) ∧ w' = w.alloc (.cells (cellsD m (.slice ao L cap)) 26) := by
  by_cases hk : 1 ≤ m.kind ∧ m.kind ≤ 7
  · obtain ⟨k, n, s, a, l, u, d⟩ := m
    have hk : k = 1 ∨ k = 2 ∨ k = 3 ∨ k = 4 ∨ k = 5 ∨ k = 6 ∨ k = 7 := by dsimp only at hk; omega
    rcases hk with rfl | rfl | rfl | rfl | rfl | rfl | rfl
    · exact rright_k1 n s a u l d ao L cap w hr
    · exact rright_k2 n s a u l d ao L cap w hr
    · exact rright_k3 n s a u l d ao L cap w hr
    · exact rright_k4 n s a u l d ao L cap w hr
    · exact rright_k5 n s a u l d ao L cap w hr
    · exact rright_k6 n s a u l d ao L cap w hr
    · exact rright_k7 n s a u l d ao L cap w hr
  · exact rright_low m ao L cap w hk

/-- what the document reads of t: it may be, if it says so; and it is what t tells, if t tells one. -/
def FSays (t : List UInt8) (m : Dg) (ok : Bool) : Prop := (ok = true → RightD m) ∧ ∀ m', IsD t m' → m' = m ∧ ok = true
theorem fsays_none {t : List UInt8} (h : ∀ m', ¬ IsD t m') : FSays t zeroD false := ⟨fun h => Bool.noConfusion h, fun m' hm => absurd hm (h m')⟩
theorem fsays_of {c : UInt8} {r : List UInt8} {k : Int} {m : Dg} (hk : (c.toNat : Int) = k) (h : m = (parseD k r).1) : FSays (80 :: c :: r) m (rightB m) := by
  subst hk h
  refine ⟨fun h => right_of h, fun m' hm => ?_⟩
  obtain ⟨c', r', e, _, hp⟩ := is_parse hm
  injection e with _ e
  injection e with e3 e4
  subst e3 e4
  rw [hp]
  exact ⟨rfl, right_yes hm.1⟩
/-- of bytes that tell one: its kind, and what is read. -/
theorem is_at {c : UInt8} {r : List UInt8} {k : Int} {m : Dg} (hk : (c.toNat : Int) = k) (h : IsD (80 :: c :: r) m) : m.kind = k ∧ RightD m ∧ parseD k r = (m, [], false) := by
  obtain ⟨c', r', e, h1, hp⟩ := is_parse h
  injection e with _ e
  injection e with e3 e4
  subst e3 e4
  rw [hk] at hp h1
  exact ⟨h1.symm, h.1, hp⟩
/-- how many bytes the fields have at least. -/
def sizeN (k : Int) : Nat := if k = 1 ∨ k = 2 then 4 else if k = 3 then 5 else if k = 4 then 6 else if k = 5 then 2 else if k = 6 then 3 else 0
theorem is_size {c : UInt8} {r : List UInt8} {k : Int} (hk : (c.toNat : Int) = k) (h : ¬ (1 ≤ k ∧ k ≤ 7) ∨ r.length < sizeN k) (m : Dg) : ¬ IsD (80 :: c :: r) m := by
  intro hm
  obtain ⟨h1, hr, _⟩ := is_at hk hm
  obtain ⟨_, _, he⟩ := hm
  rcases h with h | h
  · rw [← h1] at h; exact h hr.1
  · unfold msgL at he
    injection he with _ he
    injection he with _ he
    rw [← he, ← h1] at h
    unfold sizeN bodyL at h
    have p1 := run_pos m.inputs
    have p2 := num_pos (sgnN m.lead)
    repeat' split at h
    all_goals simp only [List.length_append, w4_len, w2_len, List.length_nil] at h; omega
theorem is_run {c : UInt8} {r : List UInt8} (hk : (c.toNat : Int) = 3) (hl : ¬ r.length < 5) (h : (readR (r.drop 4)).2.2 ≠ 0) (m : Dg) : ¬ IsD (80 :: c :: r) m := by
  intro hm
  obtain ⟨_, _, hp⟩ := is_at hk hm
  have hb : (parseD 3 r).2.2 = false := by rw [hp]
  have e : (parseD 3 r).2.2 = badR (leftN 2 (leftN 2 r)) (badN 2 (leftN 2 r) (badN 2 r false)) := rfl
  rw [e] at hb
  have hq := (bad_r hb).1
  unfold leftN at hq
  rw [if_neg (by omega : ¬ r.length < 2), if_neg (by rw [List.length_drop]; omega), List.drop_drop] at hq
  exact h hq
theorem is_lead {c : UInt8} {r : List UInt8} (hk : (c.toNat : Int) = 6) (hl : ¬ r.length < 3) (h : (rdN (r.drop 2)).2.2 ≠ 0 ∨ 4000 < (rdN (r.drop 2)).1) (m : Dg) : ¬ IsD (80 :: c :: r) m := by
  intro hm
  obtain ⟨_, hr, hp⟩ := is_at hk hm
  have hb : (parseD 6 r).2.2 = false := by rw [hp]
  have e : (parseD 6 r).2.2 = badS (leftN 2 r) (badN 2 r false) := rfl
  rw [e] at hb
  have hq := (bad_s hb).1
  have hd : (parseD 6 r).1.lead = unsN (rdN (leftN 2 r)).1 := rfl
  rw [hp] at hd
  have hll : leftN 2 r = r.drop 2 := by unfold leftN; rw [if_neg (by omega)]
  rw [hll] at hq hd
  rcases h with h | h
  · exact h hq
  · have := hr.2.2.1
    rw [hd] at this
    unfold unsN at this
    split at this <;> omega

end Go.Proofs.Ytnjmmmclelmeiaa.Wr
