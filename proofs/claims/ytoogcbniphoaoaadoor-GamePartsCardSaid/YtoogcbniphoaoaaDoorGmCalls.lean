/- The small functions of the game: numbers within, angles, places, boxes, players as they begin (layer 12, game). -/
import Derived.Test.YtoogcbniphoaoaaDoorGmBase
namespace Go.Proofs.YtoogcbniphoaoaaDoor.Gm
open Go.RowKit Go.Proofs.YtoogcbniphoaoaaDoor.Fx Go.Proofs.YtoogcbniphoaoaaDoor.Tg Go.Proofs.YtoogcbniphoaoaaDoor.Dc
open Go.Proofs.YtoogcbniphoaoaaDoor.Ev (Ev Ky addR pageI At ecs Pg Evs)
open Go.Proofs.YtoogcbniphoaoaaDoor.Sh (In32 vec box insideB touchB slI mvP mvV wallI)
set_option linter.unusedVariables false

def inB (n a b : Int) : Bool := decide (a ≤ n) && decide (n ≤ b)

theorem within_c (n a b : Int) (w : World) :
    Calls Tryd.prog 11 #[.int .i64 n, .int .i64 a, .int .i64 b] w fun e w' => e = .returned (.bool (inB n a b)) ∧ w = w' := by
  by_cases h : a ≤ n
  · rw [show inB n a b = decide (n ≤ b) by simp [inB, h]]
    go_enter Tryd.func11, Tryd.ntmps11
    go_wp2
    go_ret
    exact ⟨rfl, rfl⟩
  · rw [show inB n a b = false by simp [inB, h]]
    go_enter Tryd.func11, Tryd.ntmps11
    go_wp2
    go_ret
    exact ⟨rfl, rfl⟩

theorem oneless_c (n : Int) (h : 0 ≤ n ∧ n ≤ 1000) (w : World) :
    Calls Tryd.prog 27 #[.int .i64 n] w fun e w' => e = .returned (.int .i64 (coolI n)) ∧ w = w' := by
  unfold coolI
  by_cases k : 0 < n
  all_goals
    go_enter Tryd.func27, Tryd.ntmps27
    go_wp2
    go_ret
    exact ⟨by first | rfl | simp, rfl⟩

theorem emitter_c (n : Int) (h : 0 ≤ n ∧ n ≤ 1) (w : World) :
    Calls Tryd.prog 40 #[.int .i64 n] w fun e w' => e = .returned (.int .i64 (n + 1)) ∧ w = w' := by
  go_enter Tryd.func40, Tryd.ntmps40
  go_wp2
  go_ret
  exact ⟨rfl, rfl⟩

theorem bit_and (k : Nat) : ∀ a : Nat, a < 64 → bits .and .u8 (a : Int) 1 = (a : Int) % 2 ∧ bits .and .u8 (a : Int) 2 = 2 * ((a : Int) / 2 % 2) ∧ bits .and .u8 (a : Int) 4 = 4 * ((a : Int) / 4 % 2) ∧ bits .and .u8 (a : Int) 8 = 8 * ((a : Int) / 8 % 2) ∧ bits .and .u8 (a : Int) 16 = 16 * ((a : Int) / 16 % 2) ∧ bits .and .u8 (a : Int) 32 = 32 * ((a : Int) / 32 % 2) := by
  decide +kernel
theorem bits_of {a : Int} (h : 0 ≤ a ∧ a ≤ 63) : bits .and .u8 a 1 = a % 2 ∧ bits .and .u8 a 2 = 2 * (a / 2 % 2) ∧ bits .and .u8 a 4 = 4 * (a / 4 % 2) ∧ bits .and .u8 a 8 = 8 * (a / 8 % 2) ∧ bits .and .u8 a 16 = 16 * (a / 16 % 2) ∧ bits .and .u8 a 32 = 32 * (a / 32 % 2) := by
  have := bit_and 0 a.toNat (by omega)
  rwa [show ((a.toNat : Nat) : Int) = a by omega] at this

theorem and_65535 (f : Int) : bits .and .i64 f 65535 = f % 65536 := and_turn f

theorem turned_c (f a : Int) (hf : 0 ≤ f ∧ f ≤ 65535) (ha : 0 ≤ a ∧ a ≤ 63) (w : World) :
    Calls Tryd.prog 28 #[.int .i64 f, .int .u8 a] w fun e w' => e = .returned (.int .i64 (turnI f a)) ∧ w = w' := by
  obtain ⟨b1, b2, _⟩ := bits_of ha
  unfold turnI
  have e1 : a % 2 = 0 ∨ a % 2 = 1 := by omega
  have e2 : a / 2 % 2 = 0 ∨ a / 2 % 2 = 1 := by omega
  rcases e1 with e1 | e1 <;> rcases e2 with e2 | e2 <;> rw [e1] at b1 ⊢ <;> rw [e2] at b2 ⊢
  · have hA := and_65535 f
    go_enter Tryd.func28, Tryd.ntmps28
    go_wp2
    go_ret
    exact ⟨ret_int (by omega), rfl⟩
  · have hA := and_65535 (f + 1024)
    go_enter Tryd.func28, Tryd.ntmps28
    go_wp2
    go_ret
    exact ⟨ret_int (by omega), rfl⟩
  · have hA := and_65535 (f - 1024)
    go_enter Tryd.func28, Tryd.ntmps28
    go_wp2
    go_ret
    exact ⟨ret_int (by omega), rfl⟩
  · have hA := and_65535 f
    go_enter Tryd.func28, Tryd.ntmps28
    go_wp2
    go_ret
    exact ⟨ret_int (by omega), rfl⟩

theorem heading_c (f : Int) (w : World) :
    Calls Tryd.prog 41 #[.int .i64 f] w fun e w' => e = .returned (vec (waveI (f + 16384)) (waveI f)) ∧ Below w.heap.size w w' := by
  go_enter Tryd.func41, Tryd.ntmps41
  go_wp2_with (first
    | (go_at_call 52; ((with_reducible refine (cos_c _ _).mono ?_); rintro e w' ⟨rfl, rfl⟩))
    | (go_at_call 53; ((with_reducible refine (sin_c _ _).mono ?_); rintro e w' ⟨rfl, rfl⟩)))
  refine bodyPost_ret (Sh.results_vec rfl _ _ w.heap.size rfl _ _ (Sh.At.new w _ _)) rfl ?_
  exact ⟨rfl, Ev.bal (Ev.br w) _⟩

theorem results_box1 {fn : Func} {k : Nat} (h : fn.results = #[.cell k 66]) (tmps : Array Value) (W : World) (b : Nat) (hp : tmps[k]?.getD undef = .pointer (some ⟨b, 0, none⟩)) (v0 v1 v2 v3 : Value) (hA : At W b #[v0, v1, v2, v3] 66) :
    (results fn tmps).run Tryd.prog W = .ok (.agg #[v0, v1, v2, v3]) W := by
  obtain ⟨c0, c1, c2, c3⟩ := hA.four
  simp [results, h, hp, go_sem, c0, c1, c2, c3]

theorem arena_c (w : World) :
    Calls Tryd.prog 24 #[] w fun e w' => e = .returned abox ∧ Below w.heap.size w w' := by
  go_enter Tryd.func24, Tryd.ntmps24
  go_wp2_with fail
  refine bodyPost_ret (results_box1 rfl _ _ w.heap.size rfl _ _ _ _ (At.new w _ _)) rfl ?_
  exact ⟨rfl, Ev.bal (Ev.br w) _⟩

theorem playersbox_c (w : World) :
    Calls Tryd.prog 23 #[] w fun e w' => e = .returned pbox ∧ Below w.heap.size w w' := by
  have hA := hid (At.new w #[.int .i32 0, .int .i32 0, .int .i32 0, .int .i32 0] 66)
  have hB := hid (Ev.bal (Ev.br w) (.cells #[.int .i32 0, .int .i32 0, .int .i32 0, .int .i32 0] 66))
  go_enter Tryd.func23, Tryd.ntmps23
  go_upto_region 1 with fail
  generalize World.alloc w _ = w0 at hA hB ⊢
  have hS := fun W => Sh.shrink_yes (-4194304) (-4194304) 4194304 4194304 262144 (by decide) (by decide) (by decide) (by decide) (by decide) (by decide +kernel) W
  rw [show satI (-4194304 + 262144) = -3932160 by decide +kernel, show satI (4194304 - 262144) = 3932160 by decide +kernel] at hS
  go_upto_region 2 with (first
    | (go_at_call 24; ((with_reducible refine (arena_c _).mono ?_); rintro e w1 ⟨rfl, g1⟩; have HA := hid (hA.out.below g1); have HB := hid (Ev.bt hB.out g1)))
    | (go_at_call 37; ((with_reducible refine (hS _).mono ?_); rintro e w2 ⟨rfl, g2⟩; have HA2 := hid (HA.out.below g2); have HB2 := hid (Ev.bt HB.out g2))))
  have HA3 := hid (HA2.out.more (.cells #[.int .i32 (-3932160), .int .i32 (-3932160), .int .i32 3932160, .int .i32 3932160] 66))
  have HB3 := hid (Ev.bal HB2.out (.cells #[.int .i32 (-3932160), .int .i32 (-3932160), .int .i32 3932160, .int .i32 3932160] 66))
  have HN := hid (At.new w2 #[.int .i32 (-3932160), .int .i32 (-3932160), .int .i32 3932160, .int .i32 3932160] 66)
  have hlt := HA2.out.lt
  clear HA HB HA2 HB2
  generalize World.alloc w2 _ = w3 at HA3 HB3 HN ⊢
  obtain ⟨c0, c1, c2, c3⟩ := HN.out.four
  obtain ⟨d0, d1, d2, d3⟩ := HA3.out.four
  have f := HA3.out.frozen
  go_wp2_with fail
  refine bodyPost_ret (results_box1 rfl _ _ w.heap.size rfl _ _ _ _ (HA3.out.put4 _ _ _ _)) rfl ?_
  exact ⟨rfl, Sh.bset4 HB3.out (Nat.le_refl _) _ _ _ _⟩

theorem pan_div (x : Int) (h : -4194304 ≤ x ∧ x ≤ 4194304) : divI x 8388608 = x / 128 := by
  have e : x * 65536 / 8388608 = x / 128 := by omega
  have h0 : ¬ ((8388608 : Int) = 0) := by decide
  have h1 : (0 : Int) < 8388608 := by decide
  unfold divI downI
  rw [if_neg h0, if_pos h1, e]
  unfold satI
  rw [if_neg (by omega), if_neg (by omega)]
theorem pan_c (x y : Int) (h : -4194304 ≤ x ∧ x ≤ 4194304) (w : World) :
    Calls Tryd.prog 48 #[vec x y] w fun e w' => e = .returned (.int .i64 (x / 128)) ∧ Below w.heap.size w w' := by
  have hd := pan_div x h
  go_enter Tryd.func48, Tryd.ntmps48
  go_wp2_with (go_at_call 62; ((with_reducible refine (div_c _ _ (by omega) (by omega) _).mono ?_); rintro e w' ⟨rfl, rfl⟩; rw [hd]))
  go_ret
  exact ⟨ret_int (by omega), Ev.bal (Ev.br w) _⟩

end Go.Proofs.YtoogcbniphoaoaaDoor.Gm
