/- What Wrong of layer 14 (feed) returns: the first frame that is known, and kept, for which something else was used. -/
import Derived.Test.YtkeedegbfpenjaaFdTrim
namespace Go.Proofs.Ytkeedegbfpenjaa.Fd
open Go.RowKit Go.Proofs.Ytkeedegbfpenjaa.Rg
set_option linter.unusedVariables false

theorem wrong_nil (w : World) :
    Calls Try.prog 10 #[.pointer none] w fun e w' => e = .returned (.tuple #[.int .i64 0, .bool false]) ∧ w = w' := by
  go_enter Try.func10, Try.ntmps10
  go_wp2_with (first
    | (go_at_call 12; ((with_reducible refine (first_nil _).mono ?_); rintro e w' ⟨rfl, rfl⟩))
    | (go_at_call 13; ((with_reducible refine (next_nil _).mono ?_); rintro e w' ⟨rfl, rfl⟩)))
  go_loopg [4] 0 (fun gk s4 wr => gk = 0 ∧ s4 = .int .i64 0 ∧ wr = w)
  case atStart => exact ⟨rfl, rfl, rfl⟩
  case round =>
    obtain ⟨rfl, rfl, rfl⟩ := hrel
    go_wp2_with (go_at_call 13; ((with_reducible refine (next_nil _).mono ?_); rintro e w' ⟨rfl, rfl⟩))
    go_ret2
    exact ⟨rfl, rfl⟩

/-- what Wrong answers. -/
def wrongV (m : Fd) : Int := match wrong m with | some k => (k : Int) | none => 0
theorem below_drew {n : Nat} {w W : World} (h : Below n w W) (q : Nat) : Below n w (W.drewN q) := ⟨h.os, h.tape, h.output, h.size, h.block⟩

set_option maxHeartbeats 1000000 in
theorem wrong_c (n₀ b : Nat) (F : Nat → Prop) (m : Fd) (w : World) (h : Fed w n₀ b F m) :
    Calls Try.prog 10 #[.pointer (some ⟨b, 0, none⟩)] w fun e w' => e = .returned (.tuple #[.int .i64 (wrongV m), .bool (wrong m).isSome]) ∧ Below w.heap.size w w' := by
  obtain ⟨br, bw, ao, cap, aw, capw, l, hp, hg, hl, ho, rfl⟩ := id h
  obtain ⟨c0, _, _, c3⟩ := hp.cells
  have h1 := ho.le
  have h2 := ho.len
  have HN := hid (fun (W : World) (hW : Below w.heap.size w W) => next_c n₀ b _ m W (h.old hW))
  have HK := hid (fun (W : World) (f : Int) (hf : f ≤ 9223372036854775807) (hW : Below w.heap.size w W) => known_c f n₀ b _ m W (h.old hW) hf)
  have HG := hid (fun (W : World) (f : Int) (hW : Below w.heap.size w W) => Ru.get_c f n₀ bw 64 capw (wF m) aw l W (hp.old hW).win hg.up (Nat.le_trans hg.len (by decide)))
  have HC := hid (fun (W : World) (hW : Below w.heap.size w W) => (hp.old hW).cells.2.2.2)
  have HL := hid hl
  clear h hp hg hl ho
  go_enter Try.func10, Try.ntmps10
  go_wp2_with (go_at_call 12; ((with_reducible refine (first_c _ _ _ c0).mono ?_); rintro e w' ⟨rfl, rfl⟩))
  clear c0 c3
  go_loopg [4] (m.L.length - m.first) (fun gk s4 wr => ∃ k : Nat, gk + k = m.L.length ∧ m.first ≤ k ∧ s4 = .int .i64 k ∧ (∀ j, m.first ≤ j → j < k → isWrong m j = false) ∧ Below w.heap.size w wr)
  case atStart => exact ⟨m.first, by omega, Nat.le_refl _, rfl, fun j h3 h4 => by omega, Below.refl _ _⟩
  case round =>
    obtain ⟨k, hk, hkf, rfl, hno, hB⟩ := hrel
    have N0 := hid (HN.out wr hB)
    have HNO := hid hno
    have HB := hid hB
    have c3 := HC.out wr hB
    by_cases hlt : k < m.L.length
    · have K0 := hid (fun q => HK.out (wr.drewN q) (k : Int) (by omega) (below_drew hB q))
      have G0 := hid (fun q => HG.out (wr.drewN q) (k : Int) (below_drew hB q))
      have hkn := kn_in (m := m) hkf hlt
      obtain ⟨y, hy⟩ : ∃ y, m.L[k]'hlt = y := ⟨_, rfl⟩
      have KV : Hid (knV m (k : Int) = y) := by show _ = _; rw [← hy]; simp [knV, hkn]
      have KB : Hid (knB m (k : Int) = true) := by show _ = _; simp [knB, hkn]
      have hLk : m.L[k]? = some y := by rw [← hy]; exact List.getElem?_eq_getElem hlt
      have hus := HL.out k hkf
      have d1 : decide ((k : Int) < (m.L.length : Int)) = true := by simp; omega
      have hw : IntKind.i64.wrap ((k : Int) + 1) = (k : Int) + 1 := IntWalk.i64_in _ (by omega)
      have next : isWrong m k = false → Hid (∃ k' : Nat, (m.L.length - (k + 1)) + k' = m.L.length ∧ m.first ≤ k' ∧ (Value.int .i64 ((k : Int) + 1)) = .int .i64 k' ∧ (∀ j, m.first ≤ j → j < k' → isWrong m j = false)) := fun h => ⟨k + 1, by omega, by omega, by go_num, fun j h3 h4 => by
        by_cases e : j = k
        · subst e; exact h
        · exact HNO.out j h3 (by omega)⟩
      clear hno hB hkn hy
      by_cases hF : Ru.hasF l (k : Int) = true
      · have hus2 : m.us k = some (Ru.thingI l (k : Int)) := by rw [hus]; unfold look; rw [if_pos hF]
        obtain ⟨x, X⟩ : ∃ x, Hid (Ru.thingI l (k : Int) = x) := ⟨_, rfl⟩
        rw [X.out] at hus2
        have HF := hid hF
        by_cases hxy : x = y
        · have hn := next (by simp [isWrong, hus2, hLk, hxy])
          have d2 : (x == y) = true := by simpa using hxy
          clear next hus hus2 hF hLk hxy
          go_wp2_with (first
            | (go_at_call 13; ((with_reducible refine N0.out.mono ?_); rintro e w' ⟨rfl, q, rfl⟩))
            | (go_at_call 11; ((with_reducible refine (K0.out _).mono ?_); rintro e w' ⟨rfl, q2, rfl⟩; rw [KV.out, KB.out]))
            | (go_at_call 22; ((with_reducible refine (G0.out _).mono ?_); rintro e w5 ⟨rfl, hB5⟩; rw [X.out, HF.out])))
          go_roundg (m.L.length - (k + 1))
          case measure => omega
          case rel =>
            obtain ⟨k', a1, a2, a3, a4⟩ := hn.out
            exact ⟨k', a1, a2, a3, a4, (below_drew HB.out _).trans (hB5.mono HB.out.size)⟩
        · have hw2 : isWrong m k = true := by simp [isWrong, hus2, hLk]; exact fun e => hxy e.symm
          have hwr := wrong_is hkf hlt hw2 HNO.out
          have W1 : Hid (wrongV m = (k : Int)) := by show _ = _; simp [wrongV, hwr]
          have W2 : Hid ((wrong m).isSome = true) := by show _ = _; simp [hwr]
          have d2 : (x == y) = false := by simpa using hxy
          clear next hus hus2 hF hLk hxy hw2 hwr
          go_wp2_with (first
            | (go_at_call 13; ((with_reducible refine N0.out.mono ?_); rintro e w' ⟨rfl, q, rfl⟩))
            | (go_at_call 11; ((with_reducible refine (K0.out _).mono ?_); rintro e w' ⟨rfl, q2, rfl⟩; rw [KV.out, KB.out]))
            | (go_at_call 22; ((with_reducible refine (G0.out _).mono ?_); rintro e w5 ⟨rfl, hB5⟩; rw [X.out, HF.out])))
          go_ret2
          exact ⟨by rw [W1.out, W2.out]; rfl, (below_drew HB.out _).trans (hB5.mono HB.out.size)⟩
      · have hF2 : Ru.hasF l (k : Int) = false := by simpa using hF
        have hus2 : m.us k = none := by rw [hus]; unfold look; rw [if_neg hF]
        have hn := next (by simp [isWrong, hus2])
        have HF := hid hF2
        clear next hus hus2 hF hF2 hLk
        go_wp2_with (first
          | (go_at_call 13; ((with_reducible refine N0.out.mono ?_); rintro e w' ⟨rfl, q, rfl⟩))
          | (go_at_call 11; ((with_reducible refine (K0.out _).mono ?_); rintro e w' ⟨rfl, q2, rfl⟩; rw [KV.out, KB.out]))
          | (go_at_call 22; ((with_reducible refine (G0.out _).mono ?_); rintro e w5 ⟨rfl, hB5⟩; rw [HF.out])))
        go_roundg (m.L.length - (k + 1))
        case measure => omega
        case rel =>
          obtain ⟨k', a1, a2, a3, a4⟩ := hn.out
          exact ⟨k', a1, a2, a3, a4, (below_drew HB.out _).trans (hB5.mono HB.out.size)⟩
    · have d1 : decide ((k : Int) < (m.L.length : Int)) = false := by simp; omega
      have hwr : wrong m = none := wrong_none.2 (fun j h3 h4 => hno j h3 (by omega))
      have W1 : Hid (wrongV m = 0) := by show _ = _; simp [wrongV, hwr]
      have W2 : Hid ((wrong m).isSome = false) := by show _ = _; simp [hwr]
      clear hno hB hwr
      go_wp2_with (go_at_call 13; ((with_reducible refine N0.out.mono ?_); rintro e w' ⟨rfl, q, rfl⟩))
      go_ret2
      exact ⟨by rw [W1.out, W2.out]; rfl, below_drew HB.out _⟩

end Go.Proofs.Ytkeedegbfpenjaa.Fd
