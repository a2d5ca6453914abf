/- Which key stands ahead, as the document says it (layer 11, event). -/
import Derived.Test.YtfkbkfaiplhehaaEvB
import Derived.Deep.QuietTactic
import Derived.BigQuiet
namespace Go.Proofs.Ytfkbkfaiplhehaa.Ev
open Go.RowKit
set_option linter.unusedVariables false

def fld (x : Ky) : Nat → Int
  | 0 => x.f
  | 1 => x.e
  | 2 => x.k
  | _ => x.o
def rest (x y : Ky) : Nat → Int
  | 0 => cmpK x y
  | 1 => orI (cmpI x.e y.e) (orI (cmpI x.k y.k) (cmpI x.o y.o))
  | 2 => orI (cmpI x.k y.k) (cmpI x.o y.o)
  | 3 => cmpI x.o y.o
  | _ => 0
theorem rest_step (x y : Ky) {k : Nat} (hk : k < 4) : rest x y k = orI (cmpI (fld x k) (fld y k)) (rest x y (k + 1)) := by
  match k, hk with
  | 0, _ => rfl
  | 1, _ => rfl
  | 2, _ => rfl
  | 3, _ => simp [rest, fld, orI]
theorem fld_cell {w : World} {b : Nat} {x : Ky} {T : TypeId} (h : At w b #[.int .i64 x.f, .int .i64 x.e, .int .i64 x.k, .int .i64 x.o] T) {k : Nat} (hk : k < 4) : w.cell? ⟨b, k, none⟩ = some (.int .i64 (fld x k)) := by
  obtain ⟨h0, h1, h2, h3⟩ := h.four
  match k, hk with
  | 0, _ => exact h0
  | 1, _ => exact h1
  | 2, _ => exact h2
  | 3, _ => exact h3

set_option maxRecDepth 100000 in
set_option maxHeartbeats 1000000 in
theorem rcompare_c (x y : Ky) (w : World) :
    Calls Try.prog 18 #[kv x, kv y] w fun e w' => e = .returned (.int .i64 (cmpK x y)) ∧ Gr w w' := by
  have HA := hid (At.new ((w.alloc (.cells #[.int .i64 x.f, .int .i64 x.e, .int .i64 x.k, .int .i64 x.o] 24)).alloc (.cells #[.int .i64 y.f, .int .i64 y.e, .int .i64 y.k, .int .i64 y.o] 24)) #[.int .i64 x.f, .int .i64 x.e, .int .i64 x.k, .int .i64 x.o] 3)
  have HB := hid (At.new (((w.alloc (.cells #[.int .i64 x.f, .int .i64 x.e, .int .i64 x.k, .int .i64 x.o] 24)).alloc (.cells #[.int .i64 y.f, .int .i64 y.e, .int .i64 y.k, .int .i64 y.o] 24)).alloc (.cells #[.int .i64 x.f, .int .i64 x.e, .int .i64 x.k, .int .i64 x.o] 3)) #[.int .i64 y.f, .int .i64 y.e, .int .i64 y.k, .int .i64 y.o] 3)
  have HA2 := hid (HA.out.more (.cells #[.int .i64 y.f, .int .i64 y.e, .int .i64 y.k, .int .i64 y.o] 3))
  have HW := hid (gal (gal (gal (gal (gr w) (.cells #[.int .i64 x.f, .int .i64 x.e, .int .i64 x.k, .int .i64 x.o] 24)) (.cells #[.int .i64 y.f, .int .i64 y.e, .int .i64 y.k, .int .i64 y.o] 24)) (.cells #[.int .i64 x.f, .int .i64 x.e, .int .i64 x.k, .int .i64 x.o] 3)) (.cells #[.int .i64 y.f, .int .i64 y.e, .int .i64 y.k, .int .i64 y.o] 3))
  simp only [World.size_alloc] at HA2 HB
  clear HA
  have H0 : rest x y 0 = cmpK x y := rfl
  rw [← H0]
  clear H0
  go_enter Try.func18, Try.ntmps18
  go_wp2_with fail
  generalize World.alloc (World.alloc (World.alloc (World.alloc w _) _) _) _ = w4 at HA2 HB HW ⊢
  generalize w.heap.size + 1 + 1 + 1 = b2 at HB ⊢
  generalize w.heap.size + 1 + 1 = b1 at HA2 ⊢
  go_loopw [7] (fun i wr => ∃ k q : Nat, k ≤ 4 ∧ i = .int .i64 k ∧ wr = w4.drewN q ∧ Hid (rest x y 0 = rest x y k)) (fun i _ => 4 - (intOf i).toNat)
  case atStart => exact ⟨0, 0, Nat.zero_le _, rfl, rfl, hid rfl⟩
  case round =>
    obtain ⟨k, q, hk, rfl, rfl, hr⟩ := hrel
    by_cases hlt : k < 4
    · have c1 := fld_cell HA2.out hlt
      have c2 := fld_cell HB.out hlt
      have hs := hid (hr.out.trans (rest_step x y hlt))
      generalize fld x k = X at c1 hs
      generalize fld y k = Y at c2 hs
      have hk1 : (k : Int) < 4 := by omega
      have hk0 : (0 : Int) ≤ (k : Int) := by omega
      rcases cmpI_cases X Y with ⟨h1, e1⟩ | ⟨h1, e1⟩ | ⟨h1, e1⟩
      · have hn : Hid (rest x y 0 = -1) := hid (by rw [hs.out, e1]; rfl)
        have hd : decide (X < Y) = true := by simpa using h1
        clear hs e1 h1
        go_wp2_with fail
        go_quiet (fail)
        go_wp2_with fail
        go_ret
        exact ⟨by rw [hn.out]; rfl, gt HW.out (gdn (gdn (gr _) _) _)⟩
      · have hn : Hid (rest x y 0 = 1) := hid (by rw [hs.out, e1]; rfl)
        have hd : decide (X < Y) = false := by simp; omega
        have hd2 : decide (Y < X) = true := by simpa using h1
        clear hs e1 h1
        go_wp2_with fail
        go_quiet (fail)
        go_wp2_with fail
        go_quiet (fail)
        go_wp2_with fail
        go_ret
        exact ⟨by rw [hn.out]; rfl, gt HW.out (gdn (gdn (gdn (gr _) _) _) _)⟩
      · have hn : Hid (rest x y 0 = rest x y (k + 1)) := hid (by rw [hs.out, e1]; rfl)
        have hd : decide (X < Y) = false := by simp; omega
        have hd2 : decide (Y < X) = false := by simp; omega
        clear hs e1 h1
        go_wp2_with fail
        go_quiet (fail)
        go_wp2_with fail
        go_quiet (fail)
        go_wp2_with fail
        go_roundw
        case rel => exact ⟨k + 1, _, by omega, by go_num, rfl, hn⟩
        case measure => simp [intOf]; omega
    · have hk4 : k = 4 := by omega
      subst hk4
      have hn : Hid (rest x y 0 = 0) := hid hr.out
      clear hr
      go_wp2_with fail
      go_ret
      exact ⟨by rw [hn.out]; rfl, gt HW.out (gdn (gr _) _)⟩

end Go.Proofs.Ytfkbkfaiplhehaa.Ev
