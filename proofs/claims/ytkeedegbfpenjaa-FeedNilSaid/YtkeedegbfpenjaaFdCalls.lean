/- What the calls of layer 14 (feed) that only read return: First, Next, Known, ahead; of a feed that is not there too. -/
import Derived.Test.YtkeedegbfpenjaaRows
import Derived.WalkKit
import Derived.LoopTactic
import Derived.Deep.QuietTactic
import Derived.BigQuiet
import Derived.Deep.RegionLaw
import Derived.Deep.RegionHeld3
import Derived.Deep.LoopGhost
import Derived.Test.YtkeedegbfpenjaaFdMem
namespace Go.Proofs.Ytkeedegbfpenjaa.Fd
open Go.RowKit Go.Proofs.Ytkeedegbfpenjaa.Rg
set_option linter.unusedVariables false

theorem quiet_c {P : Program} {f : FuncId} {args : Array Value} {w : World} {n : Nat} {v : Value} (h : Calls P f args (w.drewN n) fun e w' => e = .returned v ∧ w.drewN n = w') : Calls P f args (w.drewN n) fun e w'' => e = .returned v ∧ ∃ m, w'' = w.drewN m :=
  Calls.quiet_of_same (h.mono fun e w' ⟨he, hw⟩ => ⟨he, hw.symm⟩)

theorem first_nil (w : World) :
    Calls Try.prog 12 #[.pointer none] w fun e w' => e = .returned (.int .i64 0) ∧ w = w' := by
  go_enter Try.func12, Try.ntmps12
  go_wp2_with fail
  go_ret
  exact ⟨rfl, rfl⟩

theorem first_c (b : Nat) (n : Int) (w : World) (h : w.cell? ⟨b, 0, none⟩ = some (.int .i64 n)) :
    Calls Try.prog 12 #[.pointer (some ⟨b, 0, none⟩)] w fun e w' => e = .returned (.int .i64 n) ∧ w = w' := by
  go_enter Try.func12, Try.ntmps12
  go_wp2_with fail
  go_ret
  exact ⟨rfl, rfl⟩

theorem next_nil (w : World) :
    Calls Try.prog 13 #[.pointer none] w fun e w' => e = .returned (.int .i64 0) ∧ w = w' := by
  go_enter Try.func13, Try.ntmps13
  go_wp2_with fail
  go_ret
  exact ⟨rfl, rfl⟩

theorem kept_len {m : Fd} (h : Ok m) : (m.first : Int) + ((kept m).length : Int) = (m.L.length : Int) := by
  have := h.le
  unfold kept
  rw [List.length_drop]
  omega

theorem next_c (n₀ b : Nat) (F : Nat → Prop) (m : Fd) (w : World) (h : Fed w n₀ b F m) :
    Calls Try.prog 13 #[.pointer (some ⟨b, 0, none⟩)] w fun e w' => e = .returned (.int .i64 m.L.length) ∧ ∃ q, w' = w.drewN q := by
  obtain ⟨br, bw, ao, cap, aw, capw, l, hp, _, _, ho, rfl⟩ := h
  obtain ⟨c0, c1, _, _⟩ := hp.cells
  have hl := kept_len ho
  have h1 := ho.len
  have r1 : ∀ q, (w.drewN q).cell? ⟨br, 1, none⟩ = some (.slice ao (kept m).length cap) := fun q => by simpa using (hp.drewN q).ring.cell 1
  have R1 := hid r1
  have hw : IntKind.i64.wrap ((m.first : Int) + ((kept m).length : Int)) = (m.L.length : Int) := by rw [hl]; exact IntWalk.i64_in _ (by omega)
  clear r1 hl hp ho
  go_enter Try.func13, Try.ntmps13
  go_wp2_with fail
  go_quiet (first | (go_at_call 24; exact quiet_c (Ru.len_c _ _ _ _ _ (R1.out _))))
  go_wp2_with fail
  go_ret
  exact ⟨rfl, _, rfl⟩

theorem known_nil (f : Int) (w : World) :
    Calls Try.prog 11 #[.pointer none, .int .i64 f] w fun e w' => e = .returned (.tuple #[.int .u8 0, .bool false]) ∧ w = w' := by
  go_enter Try.func11, Try.ntmps11
  go_wp2_with fail
  go_ret2
  exact ⟨rfl, rfl⟩

/-- what Known answers. -/
def knV (m : Fd) (f : Int) : Int := (kn m f).getD 0
def knB (m : Fd) (f : Int) : Bool := (kn m f).isSome
theorem kn_at {m : Fd} {f : Int} (h : (m.first : Int) ≤ f) : Ru.atI (kept m) (f - m.first) = knV m f ∧ Ru.atB (kept m) (f - m.first) = knB m f := by
  obtain ⟨k, rfl⟩ := Int.eq_ofNat_of_zero_le (show 0 ≤ f by omega)
  have hk : (kept m)[((k : Int) - m.first).toNat]? = kn m k := by
    unfold kn kept
    rw [if_pos h, List.getElem?_drop]
    congr 1
    omega
  by_cases h1 : (((kept m).length : Nat) : Int) ≤ (k : Int) - m.first
  · have h2 := Ru.at_far (l := kept m) h1
    have h3 : kn m k = none := by rw [← hk]; exact List.getElem?_eq_none (by omega)
    rw [h2.1, h2.2]
    simp [knV, knB, h3]
  · obtain ⟨j, hj⟩ := Int.eq_ofNat_of_zero_le (show 0 ≤ (k : Int) - m.first by omega)
    rw [hj] at hk ⊢
    have hj2 : j < (kept m).length := by omega
    have h2 := Ru.at_in (l := kept m) hj2
    rw [h2.1, h2.2]
    have h3 : kn m k = (kept m)[j]? := by rw [← hk]; rfl
    simp [knV, knB, h3, hj2]

theorem known_c (f : Int) (n₀ b : Nat) (F : Nat → Prop) (m : Fd) (w : World) (h : Fed w n₀ b F m) (hf : f ≤ 9223372036854775807) :
    Calls Try.prog 11 #[.pointer (some ⟨b, 0, none⟩), .int .i64 f] w fun e w' => e = .returned (.tuple #[.int .u8 (knV m f), .bool (knB m f)]) ∧ ∃ q, w' = w.drewN q := by
  obtain ⟨br, bw, ao, cap, aw, capw, l, hp, _, _, ho, rfl⟩ := h
  obtain ⟨c0, c1, _, _⟩ := hp.cells
  by_cases h1 : f < (m.first : Int)
  · have d1 : decide (f < (m.first : Int)) = true := by simpa using h1
    have e1 : knV m f = 0 ∧ knB m f = false := by
      have : kn m f = none := kn_none (.inl h1)
      simp [knV, knB, this]
    rw [e1.1, e1.2]
    clear e1 h1
    go_enter Try.func11, Try.ntmps11
    go_wp2_with fail
    go_ret2
    exact ⟨rfl, 0, rfl⟩
  · have d1 : decide (f < (m.first : Int)) = false := by simpa using h1
    obtain ⟨e1, e2⟩ := kn_at (m := m) (f := f) (by omega)
    rw [← e1, ← e2]
    have hk : (kept m).length ≤ 4096 := by have := ho.few; have := ho.le; unfold kept; rw [List.length_drop]; omega
    have hw : IntKind.i64.wrap (f - (m.first : Int)) = f - (m.first : Int) := IntWalk.i64_in _ (by omega)
    have R1 := hid (fun q => (hp.drewN q).ring)
    have HA := hid (fun q => Ru.at_c (f - (m.first : Int)) n₀ br 64 cap ao (kept m) (w.drewN q) (R1.out q) hk)
    clear e1 e2 h1 hp ho
    go_enter Try.func11, Try.ntmps11
    go_wp2_with fail
    go_quiet (first | (go_at_call 23; exact quiet_c (HA.out _)))
    go_wp2_with fail
    go_ret2
    exact ⟨rfl, _, rfl⟩

set_option maxHeartbeats 1000000 in
theorem ahead_c (f : Int) (n₀ b : Nat) (F : Nat → Prop) (m : Fd) (w : World) (h : Fed w n₀ b F m) :
    Calls Try.prog 19 #[.pointer (some ⟨b, 0, none⟩), .int .i64 f] w fun e w' => e = .returned (.int .i64 (trimN m f)) ∧ ∃ q, w' = w.drewN q := by
  obtain ⟨c0, ho⟩ : w.cell? ⟨b, 0, none⟩ = some (.int .i64 m.first) ∧ Ok m := by
    obtain ⟨br, bw, ao, cap, aw, capw, l, hp, _, _, ho, _⟩ := h
    exact ⟨hp.cells.1, ho⟩
  have h1 := ho.le
  have h2 := ho.len
  have HN := hid (next_c n₀ b F m w.drew (h.drewN 1))
  have hw : IntKind.i64.wrap (min (max f (m.first : Int)) (m.L.length : Int) - (m.first : Int)) = (trimN m f : Int) := by
    unfold trimN
    rw [IntWalk.i64_in _ (by omega)]
    omega
  clear h h1 h2 ho
  go_enter Try.func19, Try.ntmps19
  go_wp2_with fail
  go_region_held3 (fun w' => w'.cell? ⟨b, 0, none⟩ = some (.int .i64 m.first))
    (go_keep)
    (first | (go_at_call 13; ((with_reducible refine HN.out.mono ?_); rintro e w' ⟨rfl, q, rfl⟩)))
  all_goals
    go_wp2_with fail
    go_ret
    exact ⟨rfl, _, rfl⟩

end Go.Proofs.Ytkeedegbfpenjaa.Fd
