/- Plain facts on whole numbers for layer 1 (fixed): holding a number between two ends, dividing down. Nothing of the program is in this text. -/
/- What each function of layer 1 (fixed), and each of its document's answers, returns when it is called with any numbers of its parameters' kinds; no function here changes the memory. -/
/- Plain facts on whole numbers for layer 2 (trig): the greatest number whose square isn't above another, the wave, its mirrors. Nothing of the program is in this text. -/
/- What each function of layer 2 (trig), and each of its document's answers, returns when it is called with any numbers of its parameters' kinds; no function here changes the memory. -/
import Derived.WalkKit
import Derived.Test.YtfclnhmijjlhdaaGreatDoorRows
import Derived.LoopTactic
import Derived.Laws.BitsLemmas
import Derived.OrdersHeld
import Derived.Deep.RegionHeld3
import Derived.Deep.DeepCutAuto
import Derived.Deep.RegionWith

namespace Go.Proofs.YtfclnhmijjlhdaaGreatDoor
theorem pu1 {α : Type _} (l : List α) (i : Nat) (a : α) : l.toArray.setIfInBounds i a = (l.set i a).toArray := List.setIfInBounds_toArray ..
theorem pu2 {α : Type _} (a b : α) (l : List α) : (a :: l).set 0 b = b :: l := List.set_cons_zero
theorem pu3 {α : Type _} (a b : α) (l : List α) (n : Nat) : (a :: l).set (n + 1) b = a :: l.set n b := List.set_cons_succ
theorem tk {P : Program} {ops : Array Oper} {R : Exit → Act → World → Prop} {md : Region.Mode} {S : World → Prop} {oi : Oper} {fuel : Nat} {listed : Array Bool} {a : Act} {w : World} (i d : Nat) (v : Value) (hi : ops[i]? = some oi) (hd : oi.dst = some d)
 (hc : (Region.noSelect ops && (Region.free md ops listed i && (Region.ready md ops listed).contains i)) = true)
 (hw : Region.wanted oi (yielded ops a.tmps) = true) (hy : ∀ w, S w → (execOp a.eval oi).run P w = .ok (.value v) w) (hS : S w)
 (h : wpAnyH P md ops (NoPanic R) S fuel (listed.setIfInBounds i true) (a.put (some d) v) w) : wpAnyH P md ops (NoPanic R) S (fuel + 1) listed a w := by
 simp only [Bool.and_eq_true] at hc
 exact wpAnyH_take hi hc.1 hc.2.1 hc.2.2 (fun _ _ _ h => h) (.inl ⟨hw, hy⟩) hS (by rw [hd]; exact h)
theorem pa (l : List Value) (i : Nat) (v : Value) (df : List Deferred) : Act.put { tmps := l.toArray, defers := df } (some i) v = { tmps := (l.set i v).toArray, defers := df } := by simp [Act.put]
section
variable {P : Program} {ops : Array Oper} {Q R : Exit → Act → World → Prop} {md : Region.Mode} {S Z : World → Prop} {oi : Oper} {fuel : Nat} {listed : Array Bool} {a : Act} {w : World}
theorem tkA (i d : Nat) {v : Value} (h : wpAnyH P md ops (NoPanic R) S fuel (listed.setIfInBounds i true) (a.put (some d) v) w) (hi : ops[i]? = some oi := by rfl) (hd : oi.dst = some d := by rfl)
 (hc : (Region.noSelect ops && (Region.free md ops listed i && (Region.ready md ops listed).contains i)) = true := by kernel_rfl)
 (hw : Region.wanted oi (yielded ops a.tmps) = true := by rfl) (hy : ∀ w, S w → (execOp a.eval oi).run P w = .ok (.value v) w := by (intro W hSW; go_simp; (try with_reducible rfl))) (hS : S w := by assumption) : wpAnyH P md ops (NoPanic R) S (fuel + 1) listed a w := by
 simp only [Bool.and_eq_true] at hc
 exact wpAnyH_take hi hc.1 hc.2.1 hc.2.2 (fun _ _ _ h => h) (.inl ⟨hw, hy⟩) hS (by rw [hd]; exact h)
theorem tkL (i d : Nat) {v : Value} (hz : ∀ w, S w → Z w) (h : wpAnyH P md ops (NoPanic R) S fuel (listed.setIfInBounds i true) (a.put (some d) v) w) (hi : ops[i]? = some oi := by rfl) (hd : oi.dst = some d := by rfl)
 (hc : (Region.noSelect ops && (Region.free md ops listed i && (Region.ready md ops listed).contains i)) = true := by kernel_rfl)
 (hw : Region.wanted oi (yielded ops a.tmps) = true := by rfl) (hy : ∀ w, S w → Z w → (execOp a.eval oi).run P w = .ok (.value v) w := by (intro W hSW hSW2; go_simp; (try with_reducible rfl))) (hS : S w := by assumption) : wpAnyH P md ops (NoPanic R) S (fuel + 1) listed a w :=
 tkA i d h hi hd hc hw (fun W s => hy W s (hz W s)) hS
theorem tkS (i d : Nat) (h : wpAnyH P md ops (NoPanic R) S fuel (listed.setIfInBounds i true) (a.put (some d) undef) w) (hi : ops[i]? = some oi := by rfl) (hd : oi.dst = some d := by rfl)
 (hc : (Region.noSelect ops && (Region.free md ops listed i && (Region.ready md ops listed).contains i)) = true := by kernel_rfl)
 (hw : Region.wanted oi (yielded ops a.tmps) = false := by rfl) (hS : S w := by assumption) : wpAnyH P md ops (NoPanic R) S (fuel + 1) listed a w := by
 simp only [Bool.and_eq_true] at hc
 exact wpAnyH_take hi hc.1 hc.2.1 hc.2.2 (fun _ _ _ h => h) (.inr ⟨hw, rfl⟩) hS (by rw [hd]; exact h)
theorem onA (i : Nat) (h : ∀ K : Act → World → Prop, Shut (∀ a w, S w → (S w → wpAnyH P md ops Q S fuel (listed.setIfInBounds i true) a w) → K a w) → if Region.wanted oi (yielded ops a.tmps) = true then Oper.wp P oi a w K Q else K (a.put oi.dst undef) w)
 (ho : ops[i]? = some oi := by rfl) (hr : Region.ready md ops listed = [i] := by kernel_rfl) : wpAnyH P md ops Q S (fuel + 1) listed a w :=
 wpAnyH_ready hr (by simp) (AllReadyH.cons ho h AllReadyH.nil)
end
end Go.Proofs.YtfclnhmijjlhdaaGreatDoor

namespace Go.Proofs.YtfclnhmijjlhdaaGreatDoor.Fx

/-- a fact, laid aside. -/
theorem hid {p : Prop} (h : p) : RowKit.Hid p := h

/-- two endings with the same number are the same. -/
theorem ret_int {k : IntKind} {a b : Int} (h : a = b) : Ending.returned (.int k a) = .returned (.int k b) := by rw [h]
theorem ret_bool {a b : Bool} (h : a = b) : Ending.returned (.bool a) = .returned (.bool b) := by rw [h]

/-- n, at most 'most', then at least 'least'. -/
def holdI (n least most : Int) : Int := if (if most < n then most else n) < least then least else (if most < n then most else n)
/-- n, or the end of 32 bits that it passes. -/
def satI (n : Int) : Int := if 2147483647 < n then 2147483647 else if n < -2147483648 then -2147483648 else n
/-- a divided by b, down. -/
def downI (a b : Int) : Int := if 0 < b then a / b else (-a) / (-b)
/-- what dividing by 0 answers. -/
def endI (a : Int) : Int := if 0 < a then 2147483647 else if a < 0 then -2147483648 else 0
/-- what dividing two numbers answers. -/
def divI (a b : Int) : Int := if b = 0 then endI a else satI (downI (a * 65536) b)

theorem hold_sat (n : Int) : holdI n (-2147483648) 2147483647 = satI n := by unfold holdI satI; split <;> split <;> (try split) <;> omega
theorem sat_bd (n : Int) : -2147483648 ≤ satI n ∧ satI n ≤ 2147483647 := by unfold satI; split <;> (try split) <;> omega
theorem sat_id (n : Int) (h : -2147483648 ≤ n ∧ n ≤ 2147483647) : satI n = n := by unfold satI; split <;> (try split) <;> omega

theorem mul_bd (a b M K : Int) (ha : -M ≤ a ∧ a ≤ M) (hb : -K ≤ b ∧ b ≤ K) : -(M * K) ≤ a * b ∧ a * b ≤ M * K := by
 have h1 := Int.mul_nonneg (show 0 ≤ M - a by omega) (show 0 ≤ K + b by omega)
 have h2 := Int.mul_nonneg (show 0 ≤ M + a by omega) (show 0 ≤ K - b by omega)
 have h3 := Int.mul_nonneg (show 0 ≤ M - a by omega) (show 0 ≤ K - b by omega)
 have h4 := Int.mul_nonneg (show 0 ≤ M + a by omega) (show 0 ≤ K + b by omega)
 simp only [Int.sub_mul, Int.add_mul, Int.mul_sub, Int.mul_add] at h1 h2 h3 h4
 constructor <;> omega
theorem mul32 (a b : Int) (ha : -2147483648 ≤ a ∧ a ≤ 2147483647) (hb : -2147483648 ≤ b ∧ b ≤ 2147483647) : -4611686018427387904 ≤ a * b ∧ a * b ≤ 4611686018427387904 := by
 have := mul_bd a b 2147483648 2147483648 (by omega) (by omega)
 omega

theorem tdiv_bd (a b M : Int) (h : -M ≤ a ∧ a ≤ M) : -M ≤ a.tdiv b ∧ a.tdiv b ≤ M := by
 have := Int.natAbs_tdiv_le_natAbs a b
 omega
theorem tdiv_pos (a b : Int) (hb : 0 < b) : a.tdiv b = if a.tmod b ≠ 0 ∧ a < 0 then a / b + 1 else a / b := by
 rw [Int.tdiv_eq_ediv, Int.sign_eq_one_of_pos hb]
 by_cases h : 0 ≤ a
 · rw [if_pos (Or.inl h), if_neg (by omega)]; omega
 · by_cases d : b ∣ a
   · have e := Int.tmod_eq_zero_of_dvd d
     rw [if_pos (Or.inr d), if_neg (by omega)]; omega
   · have e : a.tmod b ≠ 0 := fun k => d (Int.dvd_of_tmod_eq_zero k)
     rw [if_neg (by rintro (k | k); exact h k; exact d k), if_pos ⟨e, by omega⟩]
theorem down_of (a b : Int) (h0 : b ≠ 0) : downI a b = if a.tmod b ≠ 0 ∧ ((a < 0 ∧ 0 ≤ b) ∨ (0 ≤ a ∧ b < 0)) then a.tdiv b - 1 else a.tdiv b := by
 unfold downI
 by_cases hb : 0 < b
 · rw [if_pos hb, tdiv_pos a b hb]
   by_cases c : a.tmod b ≠ 0 ∧ a < 0
   · rw [if_pos c, if_pos ⟨c.1, Or.inl ⟨c.2, by omega⟩⟩]; omega
   · rw [if_neg c, if_neg (by rintro ⟨x, y⟩; exact c ⟨x, by omega⟩)]
 · rw [if_neg hb]
   have t := tdiv_pos (-a) (-b) (by omega)
   rw [Int.tdiv_neg, Int.neg_tdiv, Int.tmod_neg, Int.neg_tmod] at t
   have hz : a.tmod b ≠ 0 → a ≠ 0 := by rintro x rfl; simp at x
   by_cases c : a.tmod b ≠ 0 ∧ 0 ≤ a
   · have := hz c.1
     rw [if_pos ⟨by omega, by omega⟩] at t
     rw [if_pos ⟨c.1, Or.inr ⟨c.2, by omega⟩⟩]; omega
   · rw [if_neg (by rintro ⟨x, y⟩; exact c ⟨by omega, by omega⟩)] at t
     rw [if_neg (by rintro ⟨x, y⟩; exact c ⟨x, by omega⟩)]; omega
theorem down_same (a b : Int) (h0 : b ≠ 0) (ha : -4611686018427387904 ≤ a ∧ a ≤ 4611686018427387904) (h : a.tmod b = 0) : RowKit.wrap64 (a.tdiv b) = downI a b := by
 have := tdiv_bd a b _ ha
 rw [IntWalk.wrap64_in _ (by omega), down_of a b h0, if_neg (by omega)]
theorem down_less (a b : Int) (h0 : b ≠ 0) (ha : -4611686018427387904 ≤ a ∧ a ≤ 4611686018427387904) (h : ¬ a.tmod b = 0) (k : (!decide (a < 0) == decide (b < 0)) = true) : RowKit.wrap64 (RowKit.wrap64 (a.tdiv b) - 1) = downI a b := by
 have := tdiv_bd a b _ ha
 have c : (a < 0 ∧ 0 ≤ b) ∨ (0 ≤ a ∧ b < 0) := by
  by_cases x : a < 0 <;> by_cases y : b < 0 <;> simp [x, y] at k <;> omega
 rw [IntWalk.wrap64_in (a.tdiv b) (by omega), IntWalk.wrap64_in _ (by omega), down_of a b h0, if_pos ⟨h, c⟩]
theorem down_alike (a b : Int) (h0 : b ≠ 0) (ha : -4611686018427387904 ≤ a ∧ a ≤ 4611686018427387904) (k : (!decide (a < 0) == decide (b < 0)) = false) : RowKit.wrap64 (a.tdiv b) = downI a b := by
 have := tdiv_bd a b _ ha
 have c : ¬ ((a < 0 ∧ 0 ≤ b) ∨ (0 ≤ a ∧ b < 0)) := by
  by_cases x : a < 0 <;> by_cases y : b < 0 <;> simp [x, y] at k <;> omega
 rw [IntWalk.wrap64_in (a.tdiv b) (by omega), down_of a b h0, if_neg (fun h => c h.2)]
theorem tmod_bd (a b : Int) (hb : 0 < b) : -b < a.tmod b ∧ a.tmod b < b := by
 have h1 := Int.tmod_lt_of_pos a hb
 have h2 := Int.tmod_lt_of_pos (-a) hb
 rw [Int.neg_tmod] at h2
 omega
/-- what the document's Floor reckons: from the rest that the language gives. -/
theorem floor_less (a b : Int) (hb : 0 < b) (h : a.tmod b < 0) : (a - (a.tmod b + b)).tdiv b = a / b := by
 have e := Int.mul_tdiv_add_tmod a b
 have e1 : a - (a.tmod b + b) = b * (a.tdiv b - 1) := by rw [Int.mul_sub, Int.mul_one]; omega
 have n : a < 0 := by
  by_cases c : a < 0
  · exact c
  · have := Int.tmod_nonneg b (show 0 ≤ a by omega); omega
 rw [e1, Int.mul_tdiv_cancel_left _ (by omega), tdiv_pos a b hb, if_pos ⟨by omega, n⟩]; omega
theorem floor_same (a b : Int) (hb : 0 < b) (h : ¬ a.tmod b < 0) : (a - a.tmod b).tdiv b = a / b := by
 have e := Int.mul_tdiv_add_tmod a b
 have e1 : a - a.tmod b = b * a.tdiv b := by omega
 rw [e1, Int.mul_tdiv_cancel_left _ (by omega), tdiv_pos a b hb, if_neg]
 rintro ⟨x, y⟩
 have t := Int.tmod_nonneg b (show 0 ≤ -a by omega)
 rw [Int.neg_tmod] at t
 omega
theorem ediv_bd (a b M : Int) (hb : 0 < b) (hM : 0 ≤ M) (h : -M ≤ a ∧ a ≤ M) : -M ≤ a / b ∧ a / b ≤ M := by
 constructor
 · apply (Int.le_ediv_iff_mul_le hb).2
   have := Int.mul_le_mul_of_nonneg_left (show 1 ≤ b by omega) hM
   rw [Int.neg_mul]; omega
 · apply Int.le_of_lt_add_one
   apply (Int.ediv_lt_iff_lt_mul hb).2
   have := Int.mul_le_mul_of_nonneg_left (show 1 ≤ b by omega) (show 0 ≤ M + 1 by omega)
   omega
theorem down_bd (a b M : Int) (h0 : b ≠ 0) (hM : 0 ≤ M) (h : -M ≤ a ∧ a ≤ M) : -M ≤ downI a b ∧ downI a b ≤ M := by
 unfold downI
 split
 · exact ediv_bd a b M (by omega) hM h
 · exact ediv_bd (-a) (-b) M (by omega) hM (by omega)

/-- the place after n of the steps from a to b. -/
def lerpI (a b n k : Int) : Int := a + (b - a) * n / k
theorem lerp_up (a b n m k : Int) (h : a ≤ b) (hk : 1 ≤ k) (h0 : 0 ≤ n) (h1 : n ≤ m) (h2 : m ≤ k) : a ≤ lerpI a b n k ∧ lerpI a b n k ≤ lerpI a b m k ∧ lerpI a b m k ≤ b := by
 have p0 := Int.mul_nonneg (show 0 ≤ b - a by omega) h0
 have p1 := Int.mul_le_mul_of_nonneg_left h1 (show 0 ≤ b - a by omega)
 have p2 := Int.mul_le_mul_of_nonneg_left h2 (show 0 ≤ b - a by omega)
 have q0 := Int.ediv_nonneg p0 (show 0 ≤ k by omega)
 have q1 := Int.ediv_le_ediv (show 0 < k by omega) p1
 have q2 := Int.ediv_le_ediv (show 0 < k by omega) p2
 rw [Int.mul_ediv_cancel _ (show k ≠ 0 by omega)] at q2
 unfold lerpI
 omega
theorem lerp_dn (a b n m k : Int) (h : b ≤ a) (hk : 1 ≤ k) (h0 : 0 ≤ n) (h1 : n ≤ m) (h2 : m ≤ k) : lerpI a b n k ≤ a ∧ lerpI a b m k ≤ lerpI a b n k ∧ b ≤ lerpI a b m k := by
 have p0 := Int.mul_le_mul_of_nonpos_left (show b - a ≤ 0 by omega) h0
 have p1 := Int.mul_le_mul_of_nonpos_left (show b - a ≤ 0 by omega) h1
 have p2 := Int.mul_le_mul_of_nonpos_left (show b - a ≤ 0 by omega) h2
 have q0 := Int.ediv_le_ediv (show 0 < k by omega) p0
 have q1 := Int.ediv_le_ediv (show 0 < k by omega) p1
 have q2 := Int.ediv_le_ediv (show 0 < k by omega) p2
 rw [Int.mul_ediv_cancel _ (show k ≠ 0 by omega)] at q2
 rw [Int.mul_zero, Int.zero_ediv] at q0
 unfold lerpI
 omega
theorem lerp_bd (a b n k : Int) (ha : -2147483648 ≤ a ∧ a ≤ 2147483647) (hb : -2147483648 ≤ b ∧ b ≤ 2147483647) (hk : 1 ≤ k) (h0 : 0 ≤ n) (h1 : n ≤ k) : -2147483648 ≤ lerpI a b n k ∧ lerpI a b n k ≤ 2147483647 := by
 by_cases h : a ≤ b
 · have := lerp_up a b n n k h hk h0 (Int.le_refl _) h1; omega
 · have := lerp_dn a b n n k (by omega) hk h0 (Int.le_refl _) h1; omega
theorem lerp_first (a b k : Int) : lerpI a b 0 k = a := by unfold lerpI; rw [Int.mul_zero, Int.zero_ediv]; omega
theorem lerp_last (a b k : Int) (hk : 1 ≤ k) : lerpI a b k k = b := by unfold lerpI; rw [Int.mul_ediv_cancel _ (show k ≠ 0 by omega)]; omega
theorem lerp_way (a b n k : Int) (ha : -2147483648 ≤ a ∧ a ≤ 2147483647) (hb : -2147483648 ≤ b ∧ b ≤ 2147483647) (hk : k ≤ 65536) (h0 : 0 ≤ n) (h1 : n ≤ k) : -281474976710656 ≤ (b - a) * n ∧ (b - a) * n ≤ 281474976710656 := by
 have := mul_bd (b - a) n 4294967296 65536 (by omega) (by omega)
 omega

theorem of_of (n : Int) : satI (holdI n (-2147483648) 2147483647 * 65536) = if 32767 < n then 2147483647 else if n < -32768 then -2147483648 else n * 65536 := by
 unfold satI holdI
 repeat' split
 all_goals omega
theorem hold_bd (n l m L M : Int) (hn : L ≤ n ∧ n ≤ M) (hl : L ≤ l ∧ l ≤ M) (hm : L ≤ m ∧ m ≤ M) : L ≤ holdI n l m ∧ holdI n l m ≤ M := by
 unfold holdI
 repeat' split
 all_goals omega
theorem hold_in (n l m : Int) (h : l ≤ m) : l ≤ holdI n l m ∧ holdI n l m ≤ m := by
 unfold holdI
 repeat' split
 all_goals omega
theorem hold_between (n l m : Int) (h : l ≤ m) : (if n < l then l else if m < n then m else n) = holdI n l m := by
 unfold holdI
 repeat' split
 all_goals omega
theorem one_times (a : Int) (ha : -2147483648 ≤ a ∧ a ≤ 2147483647) : satI (a * 65536 / 65536) = a := by
 rw [Int.mul_ediv_cancel _ (by omega), sat_id a ha]

end Go.Proofs.YtfclnhmijjlhdaaGreatDoor.Fx

namespace Go.Proofs.YtfclnhmijjlhdaaGreatDoor.Fx
open Go.RowKit

theorem hold_c (n l m : Int) (w : World) :
 Calls Tryz.prog 213 #[.int .i64 n, .int .i64 l, .int .i64 m] w fun e w' => e = .returned (.int .i64 (holdI n l m)) ∧ w = w' := by
 unfold holdI
 by_cases h1 : m < n
 · by_cases h2 : m < l
   all_goals
    go_enter Tryz.func213, Tryz.ntmps213
    go_wp2
    go_ret
    exact ⟨rfl, rfl⟩
 · by_cases h2 : n < l
   all_goals
    go_enter Tryz.func213, Tryz.ntmps213
    go_wp2
    go_ret
    exact ⟨rfl, rfl⟩

theorem sat_c (n : Int) (w : World) :
 Calls Tryz.prog 178 #[.int .i64 n] w fun e w' => e = .returned (.int .i32 (satI n)) ∧ w = w' := by
 have hb := sat_bd n
 go_enter Tryz.func178, Tryz.ntmps178
 go_wp2_with (go_at_call 213; ((with_reducible refine (hold_c _ _ _ _).mono ?_); rintro e w' ⟨rfl, rfl⟩; rw [hold_sat]))
 go_ret
 exact ⟨rfl, rfl⟩

theorem rsat_c (n : Int) (w : World) :
 Calls Tryz.prog 230 #[.int .i64 n] w fun e w' => e = .returned (.int .i32 (satI n)) ∧ w = w' := by
 unfold satI
 by_cases h1 : 2147483647 < n
 · go_enter Tryz.func230, Tryz.ntmps230
   go_wp2
   go_ret
   exact ⟨rfl, rfl⟩
 · by_cases h2 : n < -2147483648
   all_goals
    go_enter Tryz.func230, Tryz.ntmps230
    go_wp2
    go_ret
    exact ⟨rfl, rfl⟩

theorem add_c (a b : Int) (ha : -2147483648 ≤ a ∧ a ≤ 2147483647) (hb : -2147483648 ≤ b ∧ b ≤ 2147483647) (w : World) :
 Calls Tryz.prog 147 #[.int .i32 a, .int .i32 b] w fun e w' => e = .returned (.int .i32 (satI (a + b))) ∧ w = w' := by
 go_enter Tryz.func147, Tryz.ntmps147
 go_wp2_with (go_at_call 178; ((with_reducible refine (sat_c _ _).mono ?_); rintro e w' ⟨rfl, rfl⟩))
 go_ret
 exact ⟨rfl, rfl⟩

theorem sub_c (a b : Int) (ha : -2147483648 ≤ a ∧ a ≤ 2147483647) (hb : -2147483648 ≤ b ∧ b ≤ 2147483647) (w : World) :
 Calls Tryz.prog 175 #[.int .i32 a, .int .i32 b] w fun e w' => e = .returned (.int .i32 (satI (a - b))) ∧ w = w' := by
 go_enter Tryz.func175, Tryz.ntmps175
 go_wp2_with (go_at_call 178; ((with_reducible refine (sat_c _ _).mono ?_); rintro e w' ⟨rfl, rfl⟩))
 go_ret
 exact ⟨rfl, rfl⟩

theorem mul_c (a b : Int) (ha : -2147483648 ≤ a ∧ a ≤ 2147483647) (hb : -2147483648 ≤ b ∧ b ≤ 2147483647) (w : World) :
 Calls Tryz.prog 170 #[.int .i32 a, .int .i32 b] w fun e w' => e = .returned (.int .i32 (satI (a * b / 65536))) ∧ w = w' := by
 have hm := mul32 a b ha hb
 go_enter Tryz.func170, Tryz.ntmps170
 go_wp2_with (go_at_call 178; ((with_reducible refine (sat_c _ _).mono ?_); rintro e w' ⟨rfl, rfl⟩))
 go_ret
 exact ⟨rfl, rfl⟩

theorem neg_c (a : Int) (ha : -2147483648 ≤ a ∧ a ≤ 2147483647) (w : World) :
 Calls Tryz.prog 235 #[.int .i32 a] w fun e w' => e = .returned (.int .i32 (satI (-a))) ∧ w = w' := by
 go_enter Tryz.func235, Tryz.ntmps235
 go_wp2_with (go_at_call 178; ((with_reducible refine (sat_c _ _).mono ?_); rintro e w' ⟨rfl, rfl⟩))
 go_ret
 exact ⟨rfl, rfl⟩

theorem divDown_c (a b : Int) (ha : -4611686018427387904 ≤ a ∧ a ≤ 4611686018427387904) (h0 : b ≠ 0) (w : World) :
 Calls Tryz.prog 215 #[.int .i64 a, .int .i64 b] w fun e w' => e = .returned (.int .i64 (downI a b)) ∧ w = w' := by
 by_cases h : a.tmod b = 0
 · rw [← down_same a b h0 ha h]
   go_enter Tryz.func215, Tryz.ntmps215
   go_wp2
   go_ret
   exact ⟨rfl, rfl⟩
 · by_cases k : (!decide (a < 0) == decide (b < 0)) = true
   · rw [← down_less a b h0 ha h k]
     have h' : (a.tmod b != 0) = true := by simpa using h
     go_enter Tryz.func215, Tryz.ntmps215
     go_wp2
     go_ret
     exact ⟨rfl, rfl⟩
   · have k' : (!decide (a < 0) == decide (b < 0)) = false := by simpa using k
     rw [← down_alike a b h0 ha k']
     have h' : (a.tmod b != 0) = true := by simpa using h
     clear k
     go_enter Tryz.func215, Tryz.ntmps215
     go_wp2
     go_ret
     exact ⟨rfl, rfl⟩

theorem rfloor_c (a b : Int) (ha : -4611686018427387904 ≤ a ∧ a ≤ 4611686018427387904) (hb : 0 < b) (hb' : b ≤ 2147483648) (w : World) :
 Calls Tryz.prog 203 #[.int .i64 a, .int .i64 b] w fun e w' => e = .returned (.int .i64 (a / b)) ∧ w = w' := by
 have hm := tmod_bd a b hb
 have hd := ediv_bd a b _ hb (by omega) ha
 by_cases h : a.tmod b < 0
 · rw [← floor_less a b hb h] at hd ⊢
   go_enter Tryz.func203, Tryz.ntmps203
   go_wp2
   go_ret
   exact ⟨rfl, rfl⟩
 · rw [← floor_same a b hb h] at hd ⊢
   go_enter Tryz.func203, Tryz.ntmps203
   go_wp2
   go_ret
   exact ⟨rfl, rfl⟩

theorem endOf_c (a : Int) (w : World) :
 Calls Tryz.prog 214 #[.int .i32 a] w fun e w' => e = .returned (.int .i32 (endI a)) ∧ w = w' := by
 unfold endI
 by_cases h1 : 0 < a
 · go_enter Tryz.func214, Tryz.ntmps214
   go_wp2
   go_ret
   exact ⟨rfl, rfl⟩
 · by_cases h2 : a < 0
   all_goals
    go_enter Tryz.func214, Tryz.ntmps214
    go_wp2
    go_ret
    exact ⟨rfl, rfl⟩

theorem div_c (a b : Int) (ha : -2147483648 ≤ a ∧ a ≤ 2147483647) (hb : -2147483648 ≤ b ∧ b ≤ 2147483647) (w : World) :
 Calls Tryz.prog 179 #[.int .i32 a, .int .i32 b] w fun e w' => e = .returned (.int .i32 (divI a b)) ∧ w = w' := by
 by_cases h : b = 0
 · subst h
   unfold divI
   rw [if_pos rfl]
   go_enter Tryz.func179, Tryz.ntmps179
   go_wp2_with (go_at_call 214; ((with_reducible refine (endOf_c _ _).mono ?_); rintro e w' ⟨rfl, rfl⟩))
   go_ret
   exact ⟨rfl, rfl⟩
 · unfold divI
   rw [if_neg h]
   go_enter Tryz.func179, Tryz.ntmps179
   go_wp2_with (first
    | (go_at_call 215; ((with_reducible refine (divDown_c _ _ (by omega) h _).mono ?_); rintro e w' ⟨rfl, rfl⟩))
    | (go_at_call 178; ((with_reducible refine (sat_c _ _).mono ?_); rintro e w' ⟨rfl, rfl⟩)))
   go_ret
   exact ⟨rfl, rfl⟩

theorem rdiv_c (a b : Int) (ha : -2147483648 ≤ a ∧ a ≤ 2147483647) (hb : -2147483648 ≤ b ∧ b ≤ 2147483647) (w : World) :
 Calls Tryz.prog 240 #[.int .i32 a, .int .i32 b] w fun e w' => e = .returned (.int .i32 (divI a b)) ∧ w = w' := by
 unfold divI
 by_cases h : b = 0
 · subst h
   rw [if_pos rfl]
   unfold endI
   by_cases h1 : 0 < a
   · go_enter Tryz.func240, Tryz.ntmps240
     go_wp2
     go_ret
     exact ⟨rfl, rfl⟩
   · by_cases h2 : a < 0
     all_goals
      go_enter Tryz.func240, Tryz.ntmps240
      go_wp2
      go_ret
      exact ⟨rfl, rfl⟩
 · rw [if_neg h]
   unfold downI
   by_cases hp : 0 < b
   · rw [if_pos hp]
     go_enter Tryz.func240, Tryz.ntmps240
     go_wp2_with (first
      | (go_at_call 203; ((with_reducible refine (rfloor_c _ _ (by omega) hp (by omega) _).mono ?_); rintro e w' ⟨rfl, rfl⟩))
      | (go_at_call 230; ((with_reducible refine (rsat_c _ _).mono ?_); rintro e w' ⟨rfl, rfl⟩)))
     go_ret
     exact ⟨rfl, rfl⟩
   · rw [if_neg hp, ← Int.neg_mul]
     go_enter Tryz.func240, Tryz.ntmps240
     go_wp2_with (first
      | (go_at_call 203; ((with_reducible refine (rfloor_c _ _ (by omega) (by omega) (by omega) _).mono ?_); rintro e w' ⟨rfl, rfl⟩))
      | (go_at_call 230; ((with_reducible refine (rsat_c _ _).mono ?_); rintro e w' ⟨rfl, rfl⟩)))
     go_ret
     exact ⟨by simp, rfl⟩

theorem rmul_c (a b : Int) (ha : -2147483648 ≤ a ∧ a ≤ 2147483647) (hb : -2147483648 ≤ b ∧ b ≤ 2147483647) (w : World) :
 Calls Tryz.prog 224 #[.int .i32 a, .int .i32 b] w fun e w' => e = .returned (.int .i32 (satI (a * b / 65536))) ∧ w = w' := by
 have hm := mul32 a b ha hb
 go_enter Tryz.func224, Tryz.ntmps224
 go_wp2_with (first
  | (go_at_call 203; ((with_reducible refine (rfloor_c _ _ hm (by omega) (by omega) _).mono ?_); rintro e w' ⟨rfl, rfl⟩))
  | (go_at_call 230; ((with_reducible refine (rsat_c _ _).mono ?_); rintro e w' ⟨rfl, rfl⟩)))
 go_ret
 exact ⟨rfl, rfl⟩

/-- n as loud as g says. -/
def scaleI (n g : Int) : Int := holdI n (-2147483648) 2147483648 * holdI g (-2147483648) 2147483648 / 32768
theorem scale_bd (n g : Int) : -4611686018427387904 ≤ holdI n (-2147483648) 2147483648 * holdI g (-2147483648) 2147483648 ∧ holdI n (-2147483648) 2147483648 * holdI g (-2147483648) 2147483648 ≤ 4611686018427387904 := by
 have h1 := hold_in n (-2147483648) 2147483648 (by omega)
 have h2 := hold_in g (-2147483648) 2147483648 (by omega)
 have := mul_bd _ _ 2147483648 2147483648 h1 h2
 omega

theorem between_c (n l m : Int) (h : l ≤ m) (w : World) :
 Calls Tryz.prog 202 #[.int .i64 n, .int .i64 l, .int .i64 m] w fun e w' => e = .returned (.int .i64 (holdI n l m)) ∧ w = w' := by
 rw [← hold_between n l m h]
 by_cases h1 : n < l
 · go_enter Tryz.func202, Tryz.ntmps202
   go_wp2
   go_ret
   exact ⟨rfl, rfl⟩
 · by_cases h2 : m < n
   all_goals
    go_enter Tryz.func202, Tryz.ntmps202
    go_wp2
    go_ret
    exact ⟨rfl, rfl⟩

end Go.Proofs.YtfclnhmijjlhdaaGreatDoor.Fx

namespace Go.Proofs.YtfclnhmijjlhdaaGreatDoor.Tg
open Go.Proofs.YtfclnhmijjlhdaaGreatDoor.Fx

/-- r, with k bits more to choose. -/
def rootGo (n : Int) : Nat → Int → Int
 | 0, r => r
 | k + 1, r => if (r + 2 ^ k) * (r + 2 ^ k) ≤ n then rootGo n k (r + 2 ^ k) else rootGo n k r
/-- the greatest number of 32 bits whose square isn't above n. -/
def rootI (n : Int) : Int := rootGo n 32 0

theorem sq_le (a b : Int) (h0 : 0 ≤ a) (h : a ≤ b) : a * a ≤ b * b := Int.mul_le_mul h h h0 (by omega)
theorem sq_lt (a b : Int) (h0 : 0 ≤ a) (h : a < b) : a * a < b * b := by
 have := Int.mul_le_mul (show a ≤ b by omega) (show a + 1 ≤ b by omega) (by omega) (by omega)
 have e : a * (a + 1) = a * a + a := by rw [Int.mul_add, Int.mul_one]
 by_cases h1 : a = 0
 · subst h1
   have := Int.mul_pos h h
   omega
 · omega
theorem sq_nn (a : Int) : 0 ≤ a * a := by
 rcases Int.lt_or_le a 0 with h | h
 · have := Int.mul_nonneg (show 0 ≤ -a by omega) (show 0 ≤ -a by omega)
   rw [Int.neg_mul_neg] at this; exact this
 · exact Int.mul_nonneg h h
/-- of two numbers the lesser one's square is less: so squares tell which is the lesser. -/
theorem lt_of_sq (a b : Int) (hb : 0 ≤ b) (h : a * a < b * b) : a < b := by
 rcases Int.lt_or_le a b with h1 | h1
 · exact h1
 · have := sq_le b a hb h1; omega
theorem root_one (n a b : Int) (ha : 0 ≤ a) (hb : 0 ≤ b) (h1 : a * a ≤ n) (h2 : n < (a + 1) * (a + 1)) (h3 : b * b ≤ n) (h4 : n < (b + 1) * (b + 1)) : a = b := by
 have := lt_of_sq a (b + 1) (by omega) (by omega)
 have := lt_of_sq b (a + 1) (by omega) (by omega)
 omega
theorem pow_nn (k : Nat) : 1 ≤ (2 : Int) ^ k := by
 have := Int.pow_pos (n := 2) (m := k) (by omega); omega
theorem rootGo_is (n : Int) (k : Nat) (r : Int) (h0 : 0 ≤ r) (h1 : r * r ≤ n) (h2 : n < (r + 2 ^ k) * (r + 2 ^ k)) (h3 : r + 2 ^ k ≤ 4294967296) : 0 ≤ rootGo n k r ∧ rootGo n k r < 4294967296 ∧ rootGo n k r * rootGo n k r ≤ n ∧ n < (rootGo n k r + 1) * (rootGo n k r + 1) := by
 induction k generalizing r with
 | zero => simp only [rootGo]; simp at h2 h3; exact ⟨h0, by omega, h1, h2⟩
 | succ k ih =>
  have p := pow_nn k
  have e : (2 : Int) ^ (k + 1) = 2 ^ k + 2 ^ k := by rw [Int.pow_succ]; omega
  rw [e] at h2 h3
  simp only [rootGo]
  by_cases c : (r + 2 ^ k) * (r + 2 ^ k) ≤ n
  · rw [if_pos c]
    exact ih _ (by omega) c (by rw [Int.add_assoc]; exact h2) (by omega)
  · rw [if_neg c]
    exact ih _ h0 h1 (by omega) (by omega)
theorem root_is (n : Int) (h0 : 0 ≤ n) (h1 : n < 18446744073709551616) : 0 ≤ rootI n ∧ rootI n < 4294967296 ∧ rootI n * rootI n ≤ n ∧ n < (rootI n + 1) * (rootI n + 1) :=
 rootGo_is n 32 0 (by omega) (by omega) (by simpa using h1) (by omega)
theorem root_eq (n r : Int) (h0 : 0 ≤ n) (h1 : n < 18446744073709551616) (h2 : 0 ≤ r) (h3 : r * r ≤ n) (h4 : n < (r + 1) * (r + 1)) : r = rootI n := by
 have h := root_is n h0 h1
 exact root_one n r _ h2 h.1 h3 h4 h.2.2.1 h.2.2.2

/-- half of two to the k. -/
def bitI (k : Nat) : Int := 2 ^ k / 2
theorem bit_0 : bitI 0 = 0 := by decide
theorem bit_32 : bitI 32 = 2147483648 := by decide
theorem bit_succ (k : Nat) : bitI (k + 1) = 2 ^ k := by unfold bitI; rw [Int.pow_succ]; omega
theorem bit_half (k : Nat) : bitI (k + 1) / 2 = bitI k := by rw [bit_succ]; rfl
theorem bit_pos (k : Nat) : 1 ≤ bitI (k + 1) := by rw [bit_succ]; exact pow_nn k
theorem bit_two (k : Nat) : (2 : Int) ^ (k + 1) = bitI (k + 1) + bitI (k + 1) := by rw [bit_succ, Int.pow_succ]; omega

/-- the wave's first half turn. -/
def hillI (x : Int) : Int := 16 * (x * (32768 - x)) * 65536 / (5368709120 - 4 * (x * (32768 - x)))
theorem prod_bd (x : Int) (h0 : 0 ≤ x) (h1 : x ≤ 32768) : 0 ≤ x * (32768 - x) ∧ x * (32768 - x) ≤ 268435456 := by
 refine ⟨Int.mul_nonneg h0 (by omega), ?_⟩
 have e := sq_nn (x - 16384)
 simp only [Int.sub_mul, Int.mul_sub] at e ⊢
 omega
theorem hill_bd (x : Int) (h0 : 0 ≤ x) (h1 : x ≤ 32768) : 0 ≤ hillI x ∧ hillI x ≤ 65536 := by
 have h := prod_bd x h0 h1
 unfold hillI
 generalize x * (32768 - x) = p at h
 refine ⟨Int.ediv_nonneg (by omega) (by omega), ?_⟩
 apply Int.le_of_lt_add_one
 apply (Int.ediv_lt_iff_lt_mul (by omega)).2
 omega
theorem hill_0 : hillI 0 = 0 := by decide
theorem hill_mirror (x : Int) : hillI (32768 - x) = hillI x := by
 unfold hillI
 have e : (32768 - x) * (32768 - (32768 - x)) = x * (32768 - x) := by
  rw [Int.mul_comm]
  congr 1
  omega
 rw [e]

/-- the wave at an angle. -/
def waveI (a : Int) : Int := if a % 65536 < 32768 then hillI (a % 65536) else -hillI (a % 65536 - 32768)
theorem wave_bd (a : Int) : -65536 ≤ waveI a ∧ waveI a ≤ 65536 := by
 unfold waveI
 split
 · have := hill_bd (a % 65536) (by omega) (by omega); omega
 · have := hill_bd (a % 65536 - 32768) (by omega) (by omega); omega
theorem wave_mod (a b : Int) (h : a % 65536 = b % 65536) : waveI a = waveI b := by unfold waveI; rw [h]
theorem wave_half (a : Int) : waveI (a + 32768) = -waveI a := by
 unfold waveI
 by_cases h : a % 65536 < 32768
 · rw [if_neg (by omega), if_pos h, show (a + 32768) % 65536 - 32768 = a % 65536 by omega]
 · rw [if_pos (by omega), if_neg h, show (a + 32768) % 65536 = a % 65536 - 32768 by omega, Int.neg_neg]
theorem wave_mirror (a : Int) : waveI (32768 - a) = waveI a := by
 unfold waveI
 by_cases h0 : a % 65536 = 0
 · rw [h0, if_neg (by omega), if_pos (by omega), show (32768 - a) % 65536 - 32768 = 0 by omega, hill_0]; rfl
 · by_cases h : a % 65536 < 32768
   · rw [if_pos (by omega), if_pos h, show (32768 - a) % 65536 = 32768 - a % 65536 by omega, hill_mirror]
   · by_cases h1 : a % 65536 = 32768
     · rw [h1, if_pos (by omega), if_neg (by omega), show (32768 - a) % 65536 = 0 by omega, show (32768 : Int) - 32768 = 0 by omega, hill_0]; rfl
     · rw [if_neg (by omega), if_neg h, show (32768 - a) % 65536 - 32768 = 32768 - (a % 65536 - 32768) by omega, hill_mirror]
theorem wave_neg (a : Int) : waveI (-a) = -waveI a := by
 have h1 := wave_half (-a)
 have h2 := wave_mirror a
 rw [show -a + 32768 = 32768 - a by omega] at h1
 omega
theorem wave_lo (a : Int) (h : a % 65536 < 32768) : waveI a = hillI (a % 65536) := by unfold waveI; rw [if_pos h]
theorem wave_hi (a : Int) (h : ¬ a % 65536 < 32768) : waveI a = -hillI (a % 65536 - 32768) := by unfold waveI; rw [if_neg h]

/-- both squared, together. -/
def sqsI (x y : Int) : Int := x * x + y * y
theorem sq32 (x : Int) (h : -2147483648 ≤ x ∧ x ≤ 2147483647) : 0 ≤ x * x ∧ x * x ≤ 4611686018427387904 := ⟨sq_nn x, (mul32 x x h h).2⟩
/-- the length of a way. -/
def lenI (x y : Int) : Int := satI (rootI (sqsI x y))
theorem len_bd (x y : Int) : -2147483648 ≤ lenI x y ∧ lenI x y ≤ 2147483647 := sat_bd _

end Go.Proofs.YtfclnhmijjlhdaaGreatDoor.Tg

namespace Go.Proofs.YtfclnhmijjlhdaaGreatDoor.Tg
open Go.RowKit Go.Proofs.YtfclnhmijjlhdaaGreatDoor.Fx

/-- the lowest 16 bits of a number with a sign are its rest by 65536. -/
theorem and_turn (n : Int) : bits .and .i64 n 65535 = n % 65536 := by
 have h1 : (BitVec.ofInt 64 65535).toNat = 2 ^ 16 - 1 := by decide
 have h2 : (BitVec.ofInt 64 n &&& BitVec.ofInt 64 65535).toNat = (n % ((2 ^ 64 : Nat) : Int)).toNat % 2 ^ 16 := by
  rw [BitVec.toNat_and, BitVec.toNat_ofInt, h1, Nat.and_two_pow_sub_one_eq_mod]
 show IntKind.i64.wrap ((BitVec.ofInt 64 n &&& BitVec.ofInt 64 65535).toNat : Nat) = n % 65536
 rw [h2, IntKind.wrap_i64]
 omega

theorem part_c (a : Int) (w : World) :
 Calls Tryz.prog 209 #[.int .i64 a] w fun e w' => e = .returned (.int .i64 (a % 65536)) ∧ w = w' := by
 rw [← and_turn a]
 go_enter Tryz.func209, Tryz.ntmps209
 go_wp2
 go_ret
 exact ⟨rfl, rfl⟩

theorem hill_c (x : Int) (h0 : 0 ≤ x) (h1 : x ≤ 32768) (w : World) :
 Calls Tryz.prog 234 #[.int .i64 x] w fun e w' => e = .returned (.int .i32 (hillI x)) ∧ w = w' := by
 have hp := prod_bd x h0 h1
 have hb := hill_bd x h0 h1
 unfold hillI at hb ⊢
 go_enter Tryz.func234, Tryz.ntmps234
 go_wp2
 go_ret
 exact ⟨rfl, rfl⟩

theorem wave_c (a : Int) (w : World) :
 Calls Tryz.prog 208 #[.int .i64 (a % 65536)] w fun e w' => e = .returned (.int .i32 (waveI a)) ∧ w = w' := by
 by_cases h : a % 65536 < 32768
 · rw [wave_lo a h]
   go_enter Tryz.func208, Tryz.ntmps208
   go_wp2_with (go_at_call 234; ((with_reducible refine (hill_c _ (by omega) (by omega) _).mono ?_); rintro e w' ⟨rfl, rfl⟩))
   go_ret
   exact ⟨rfl, rfl⟩
 · rw [wave_hi a h]
   have hb := hill_bd (a % 65536 - 32768) (by omega) (by omega)
   go_enter Tryz.func208, Tryz.ntmps208
   go_wp2_with (go_at_call 234; ((with_reducible refine (hill_c _ (by omega) (by omega) _).mono ?_); rintro e w' ⟨rfl, rfl⟩))
   go_ret
   exact ⟨rfl, rfl⟩

theorem sin_c (a : Int) (w : World) :
 Calls Tryz.prog 169 #[.int .i64 a] w fun e w' => e = .returned (.int .i32 (waveI a)) ∧ w = w' := by
 go_enter Tryz.func169, Tryz.ntmps169
 go_wp2_with (first
  | (go_at_call 209; ((with_reducible refine (part_c _ _).mono ?_); rintro e w' ⟨rfl, rfl⟩))
  | (go_at_call 208; ((with_reducible refine (wave_c a _).mono ?_); rintro e w' ⟨rfl, rfl⟩)))
 go_ret
 exact ⟨rfl, rfl⟩

theorem cos_c (a : Int) (w : World) :
 Calls Tryz.prog 168 #[.int .i64 a] w fun e w' => e = .returned (.int .i32 (waveI (a + 16384))) ∧ w = w' := by
 go_enter Tryz.func168, Tryz.ntmps168
 go_wp2_with (first
  | (go_at_call 209; ((with_reducible refine (part_c _ _).mono ?_); rintro e w' ⟨rfl, rfl⟩))
  | (go_at_call 208; ((with_reducible refine (wave_c (a + 16384) _).mono ?_); rintro e w' ⟨rfl, rfl⟩)))
 go_ret
 exact ⟨rfl, rfl⟩

/-- the half turn's part of an angle, and on which side it lies, in the document's own reckoning. -/
theorem wave_side (a m x : Int) (hm : m = a % 65536) (hx : x = m % 32768) : waveI a = if 32768 ≤ m then -hillI x else hillI x := by
 subst hm
 by_cases h : 32768 ≤ a % 65536
 · rw [if_pos h, wave_hi a (by omega), hx, show a % 65536 % 32768 = a % 65536 - 32768 by omega]
 · rw [if_neg h, wave_lo a (by omega), hx, show a % 65536 % 32768 = a % 65536 by omega]
theorem tmod_up (a : Int) (h : a.tmod 65536 < 0) : a.tmod 65536 + 65536 = a % 65536 := by
 have := Int.mul_tdiv_add_tmod a 65536
 have := tmod_bd a 65536 (by omega)
 omega
theorem tmod_same (a : Int) (h : 0 ≤ a.tmod 65536) : a.tmod 65536 = a % 65536 := by
 have := Int.mul_tdiv_add_tmod a 65536
 have := tmod_bd a 65536 (by omega)
 omega
theorem tmod_none (a : Int) (h0 : a < 0) (h : 0 ≤ a.tmod 65536) : a.tmod 65536 = 0 ∧ a.tmod 32768 = 0 := by
 have h1 := Int.tmod_nonneg 65536 (show 0 ≤ -a by omega)
 rw [Int.neg_tmod] at h1
 have h2 := Int.mul_tdiv_add_tmod a 65536
 have e : a = 32768 * (2 * a.tdiv 65536) := by omega
 have h3 : a.tmod 32768 = 0 := Int.tmod_eq_zero_of_dvd ⟨_, e⟩
 exact ⟨by omega, h3⟩

theorem rsin_c (a : Int) (w : World) :
 Calls Tryz.prog 225 #[.int .i64 a] w fun e w' => e = .returned (.int .i32 (waveI a)) ∧ w = w' := by
 have ht := tmod_bd a 65536 (by omega)
 by_cases h : 0 ≤ a
 · have hp := prod_bd (a % 32768) (by omega) (by omega)
   have hb := hill_bd (a % 32768) (by omega) (by omega)
   rw [wave_side a (a % 65536) (a % 32768) rfl (by omega)]
   by_cases c : 32768 ≤ a % 65536
   · rw [if_pos c]
     unfold hillI at hb ⊢
     go_enter Tryz.func225, Tryz.ntmps225
     go_wp2
     go_ret
     exact ⟨rfl, rfl⟩
   · rw [if_neg c]
     unfold hillI at hb ⊢
     go_enter Tryz.func225, Tryz.ntmps225
     go_wp2
     go_ret
     exact ⟨rfl, rfl⟩
 · by_cases h2 : a.tmod 65536 < 0
   · have hp := prod_bd ((a.tmod 65536 + 65536) % 32768) (by omega) (by omega)
     have hb := hill_bd ((a.tmod 65536 + 65536) % 32768) (by omega) (by omega)
     rw [wave_side a (a.tmod 65536 + 65536) ((a.tmod 65536 + 65536) % 32768) (tmod_up a h2) rfl]
     by_cases c : 32768 ≤ a.tmod 65536 + 65536
     · rw [if_pos c]
       unfold hillI at hb ⊢
       go_enter Tryz.func225, Tryz.ntmps225
       go_wp2
       go_ret
       exact ⟨rfl, rfl⟩
     · rw [if_neg c]
       unfold hillI at hb ⊢
       go_enter Tryz.func225, Tryz.ntmps225
       go_wp2
       go_ret
       exact ⟨rfl, rfl⟩
   · have hz := tmod_none a (by omega) (by omega)
     have hp := prod_bd (a.tmod 32768) (by omega) (by omega)
     have hb := hill_bd (a.tmod 32768) (by omega) (by omega)
     rw [wave_side a (a.tmod 65536) (a.tmod 32768) (tmod_same a (by omega)) (by omega), if_neg (by omega)]
     have c : ¬ 32768 ≤ a.tmod 65536 := by omega
     have c2 : 0 ≤ a.tmod 32768 ∧ a.tmod 32768 ≤ 0 := by omega
     clear hz
     unfold hillI at hb ⊢
     go_enter Tryz.func225, Tryz.ntmps225
     go_wp2
     go_ret
     exact ⟨rfl, rfl⟩

theorem root_yes (n r b : Int) (k : Nat) (hb : b = 2 ^ k) (hu : n < (r + (b + b)) * (r + (b + b))) (ht : r + (b + b) ≤ 4294967296) : n < (r + b + 2 ^ k) * (r + b + 2 ^ k) ∧ r + b + 2 ^ k ≤ 4294967296 := by
 subst hb
 rw [Int.add_assoc]
 exact ⟨hu, ht⟩
theorem root_no (n r b : Int) (k : Nat) (hb : b = 2 ^ k) (hu : n < (r + b) * (r + b)) (ht : r + (b + b) ≤ 4294967296) : n < (r + 2 ^ k) * (r + 2 ^ k) ∧ r + 2 ^ k ≤ 4294967296 := by
 subst hb
 have := pow_nn k
 exact ⟨hu, by omega⟩

theorem root_c (n : Int) (h0 : 0 ≤ n) (h1 : n < 18446744073709551616) (w : World) :
 Calls Tryz.prog 211 #[.int .u64 n] w fun e w' => e = .returned (.int .u64 (rootI n)) ∧ w = w' := by
 go_enter Tryz.func211, Tryz.ntmps211
 go_wp2
 go_loop [3, 4] (fun t b => ∃ k : Nat, ∃ r : Int, k ≤ 32 ∧ 0 ≤ r ∧ r * r ≤ n ∧ n < (r + 2 ^ k) * (r + 2 ^ k) ∧ r + 2 ^ k ≤ 4294967296 ∧ t = .int .u64 r ∧ b = .int .u64 (bitI k)) (fun _ b => (intOf b).toNat)
 case atStart => exact ⟨32, 0, by omega, by omega, by omega, by simpa using h1, by omega, rfl, by rw [bit_32]⟩
 case round =>
  obtain ⟨k, r, hk, hr, hq, hu, ht, rfl, rfl⟩ := hrel
  cases k with
  | zero =>
   rw [bit_0]
   go_wp2
   go_ret
   exact ⟨ret_int (root_eq n r h0 h1 hr hq (by simpa using hu)), rfl⟩
  | succ k =>
   have hb := bit_pos k
   have hh := hid (bit_half k)
   have he := hid (bit_succ k)
   rw [bit_two] at hu ht
   have hm := sq_nn (r + bitI (k + 1))
   have hM := sq_le (r + bitI (k + 1)) 4294967295 (by omega) (by omega)
   by_cases c : (r + bitI (k + 1)) * (r + bitI (k + 1)) ≤ n
   · go_wp2
     go_round
     case rel => exact ⟨k, r + bitI (k + 1), by omega, by omega, c, (root_yes n r _ k he.out hu ht).1, (root_yes n r _ k he.out hu ht).2, rfl, by rw [hh.out]⟩
     case measure => simp [intOf]; omega
   · go_wp2
     go_round
     case rel => exact ⟨k, r, by omega, hr, hq, (root_no n r _ k he.out (by omega) ht).1, (root_no n r _ k he.out (by omega) ht).2, rfl, by rw [hh.out]⟩
     case measure => simp [intOf]; omega

theorem rroot_c (n : Int) (h0 : 0 ≤ n) (h1 : n < 18446744073709551616) (w : World) :
 Calls Tryz.prog 239 #[.int .u64 n] w fun e w' => e = .returned (.int .u64 (rootI n)) ∧ w = w' := by
 go_enter Tryz.func239, Tryz.ntmps239
 go_wp2
 go_loop [3, 4] (fun s t => ∃ l h : Int, 0 ≤ l ∧ l < h ∧ h ≤ 4294967296 ∧ l * l ≤ n ∧ n < h * h ∧ s = .int .u64 l ∧ t = .int .u64 h) (fun s t => (intOf t - intOf s).toNat)
 case atStart => exact ⟨0, 4294967296, by omega, by omega, by omega, by omega, by omega, rfl, rfl⟩
 case round =>
  obtain ⟨l, h, hl, hlh, hh, hq, hu, rfl, rfl⟩ := hrel
  by_cases c : 1 < h - l
  · have hm := sq_nn ((l + h) / 2)
    have hM := sq_le ((l + h) / 2) 4294967295 (by omega) (by omega)
    by_cases d : (l + h) / 2 * ((l + h) / 2) ≤ n
    · go_wp2
      go_round
      case rel => exact ⟨(l + h) / 2, h, by omega, by omega, hh, d, hu, rfl, rfl⟩
      case measure => simp [intOf]; omega
    · go_wp2
      go_round
      case rel => exact ⟨l, (l + h) / 2, by omega, by omega, by omega, hq, by omega, rfl, rfl⟩
      case measure => simp [intOf]; omega
  · obtain rfl : h = l + 1 := by omega
    go_wp2
    go_ret
    exact ⟨ret_int (root_eq n l h0 h1 hl hq hu), rfl⟩

theorem square_c (x : Int) (hx : -2147483648 ≤ x ∧ x ≤ 2147483647) (w : World) :
 Calls Tryz.prog 177 #[.int .i32 x] w fun e w' => e = .returned (.int .u64 (x * x)) ∧ w = w' := by
 have hq := sq32 x hx
 go_enter Tryz.func177, Tryz.ntmps177
 go_wp2
 go_ret
 exact ⟨rfl, rfl⟩

theorem squares_c (x y : Int) (hx : -2147483648 ≤ x ∧ x ≤ 2147483647) (hy : -2147483648 ≤ y ∧ y ≤ 2147483647) (w : World) :
 Calls Tryz.prog 176 #[.int .i32 x, .int .i32 y] w fun e w' => e = .returned (.int .u64 (sqsI x y)) ∧ w = w' := by
 have h1 := sq32 x hx
 have h2 := sq32 y hy
 unfold sqsI
 go_enter Tryz.func176, Tryz.ntmps176
 go_wp2_with (go_at_call 177; ((with_reducible refine (square_c _ (by assumption) _).mono ?_); rintro e w' ⟨rfl, rfl⟩))
 go_ret
 exact ⟨rfl, rfl⟩

theorem rsquares_c (x y : Int) (hx : -2147483648 ≤ x ∧ x ≤ 2147483647) (hy : -2147483648 ≤ y ∧ y ≤ 2147483647) (w : World) :
 Calls Tryz.prog 201 #[.int .i32 x, .int .i32 y] w fun e w' => e = .returned (.int .u64 (sqsI x y)) ∧ w = w' := by
 have h1 := sq32 x hx
 have h2 := sq32 y hy
 unfold sqsI
 go_enter Tryz.func201, Tryz.ntmps201
 go_wp2
 go_ret
 exact ⟨rfl, rfl⟩

theorem sqs_bd (x y : Int) (hx : -2147483648 ≤ x ∧ x ≤ 2147483647) (hy : -2147483648 ≤ y ∧ y ≤ 2147483647) : 0 ≤ sqsI x y ∧ sqsI x y < 18446744073709551616 := by
 have h1 := sq32 x hx
 have h2 := sq32 y hy
 unfold sqsI
 omega

theorem length_c (x y : Int) (hx : -2147483648 ≤ x ∧ x ≤ 2147483647) (hy : -2147483648 ≤ y ∧ y ≤ 2147483647) (w : World) :
 Calls Tryz.prog 173 #[.int .i32 x, .int .i32 y] w fun e w' => e = .returned (.int .i32 (lenI x y)) ∧ w = w' := by
 have h1 := sqs_bd x y hx hy
 have h2 := root_is _ h1.1 h1.2
 obtain ⟨h3, h4, _, _⟩ := h2
 unfold lenI
 go_enter Tryz.func173, Tryz.ntmps173
 go_wp2_with (first
  | (go_at_call 176; ((with_reducible refine (squares_c _ _ hx hy _).mono ?_); rintro e w' ⟨rfl, rfl⟩))
  | (go_at_call 211; ((with_reducible refine (root_c _ h1.1 h1.2 _).mono ?_); rintro e w' ⟨rfl, rfl⟩))
  | (go_at_call 178; ((with_reducible refine (sat_c _ _).mono ?_); rintro e w' ⟨rfl, rfl⟩)))
 go_ret
 exact ⟨rfl, rfl⟩

theorem rlength_c (x y : Int) (hx : -2147483648 ≤ x ∧ x ≤ 2147483647) (hy : -2147483648 ≤ y ∧ y ≤ 2147483647) (w : World) :
 Calls Tryz.prog 226 #[.int .i32 x, .int .i32 y] w fun e w' => e = .returned (.int .i32 (lenI x y)) ∧ w = w' := by
 have h1 := sqs_bd x y hx hy
 have h2 := root_is _ h1.1 h1.2
 obtain ⟨h3, h4, _, _⟩ := h2
 unfold lenI
 go_enter Tryz.func226, Tryz.ntmps226
 go_wp2_with (first
  | (go_at_call 201; ((with_reducible refine (rsquares_c _ _ hx hy _).mono ?_); rintro e w' ⟨rfl, rfl⟩))
  | (go_at_call 239; ((with_reducible refine (rroot_c _ h1.1 h1.2 _).mono ?_); rintro e w' ⟨rfl, rfl⟩))
  | (go_at_call 230; ((with_reducible refine (rsat_c _ _).mono ?_); rintro e w' ⟨rfl, rfl⟩)))
 go_ret
 exact ⟨rfl, rfl⟩

/-- one part of a step of a speed. -/
def stepI (x l s : Int) : Int := if l = 0 then 0 else divI (satI (x * s / 65536)) l
theorem step_0 (x l s : Int) (h : l = 0) : stepI x l s = 0 := by unfold stepI; rw [if_pos h]
theorem step_1 (x l s : Int) (h : ¬ l = 0) : stepI x l s = divI (satI (x * s / 65536)) l := by unfold stepI; rw [if_neg h]

theorem toward_c (x y s : Int) (hx : -2147483648 ≤ x ∧ x ≤ 2147483647) (hy : -2147483648 ≤ y ∧ y ≤ 2147483647) (hs : -2147483648 ≤ s ∧ s ≤ 2147483647) (w : World) :
 Calls Tryz.prog 212 #[.int .i32 x, .int .i32 y, .int .i32 s] w fun e w' => e = .returned (.tuple #[.int .i32 (stepI x (lenI x y) s), .int .i32 (stepI y (lenI x y) s)]) ∧ w = w' := by
 have hl := len_bd x y
 by_cases h : lenI x y = 0
 · rw [step_0 _ _ _ h, step_0 _ _ _ h]
   go_enter Tryz.func212, Tryz.ntmps212
   go_wp2_with (go_at_call 173; ((with_reducible refine (length_c _ _ hx hy _).mono ?_); rintro e w' ⟨rfl, rfl⟩))
   go_ret2
   exact ⟨rfl, rfl⟩
 · rw [step_1 _ _ _ h, step_1 _ _ _ h]
   go_enter Tryz.func212, Tryz.ntmps212
   go_wp2_with (first
    | (go_at_call 173; ((with_reducible refine (length_c _ _ hx hy _).mono ?_); rintro e w' ⟨rfl, rfl⟩))
    | (go_at_call 170; ((with_reducible refine (mul_c _ _ (by assumption) hs _).mono ?_); rintro e w' ⟨rfl, rfl⟩))
    | (go_at_call 179; ((with_reducible refine (div_c _ _ (sat_bd _) hl _).mono ?_); rintro e w' ⟨rfl, rfl⟩)))
   go_ret2
   exact ⟨rfl, rfl⟩

theorem rtoward_c (x y s : Int) (hx : -2147483648 ≤ x ∧ x ≤ 2147483647) (hy : -2147483648 ≤ y ∧ y ≤ 2147483647) (hs : -2147483648 ≤ s ∧ s ≤ 2147483647) (w : World) :
 Calls Tryz.prog 227 #[.int .i32 x, .int .i32 y, .int .i32 s] w fun e w' => e = .returned (.tuple #[.int .i32 (stepI x (lenI x y) s), .int .i32 (stepI y (lenI x y) s)]) ∧ w = w' := by
 have hl := len_bd x y
 by_cases h : lenI x y = 0
 · rw [step_0 _ _ _ h, step_0 _ _ _ h]
   go_enter Tryz.func227, Tryz.ntmps227
   go_wp2_with (go_at_call 226; ((with_reducible refine (rlength_c _ _ hx hy _).mono ?_); rintro e w' ⟨rfl, rfl⟩))
   go_ret2
   exact ⟨rfl, rfl⟩
 · rw [step_1 _ _ _ h, step_1 _ _ _ h]
   go_enter Tryz.func227, Tryz.ntmps227
   go_wp2_with (first
    | (go_at_call 226; ((with_reducible refine (rlength_c _ _ hx hy _).mono ?_); rintro e w' ⟨rfl, rfl⟩))
    | (go_at_call 224; ((with_reducible refine (rmul_c _ _ (by assumption) hs _).mono ?_); rintro e w' ⟨rfl, rfl⟩))
    | (go_at_call 240; ((with_reducible refine (rdiv_c _ _ (sat_bd _) hl _).mono ?_); rintro e w' ⟨rfl, rfl⟩)))
   go_ret2
   exact ⟨rfl, rfl⟩

/-- is x and y within the circle of r? -/
def nearB (x y r : Int) : Bool := decide (0 ≤ r) && decide (sqsI x y ≤ r * r)
theorem near_c (x y r : Int) (hx : -2147483648 ≤ x ∧ x ≤ 2147483647) (hy : -2147483648 ≤ y ∧ y ≤ 2147483647) (hr : -2147483648 ≤ r ∧ r ≤ 2147483647) (w : World) :
 Calls Tryz.prog 146 #[.int .i32 x, .int .i32 y, .int .i32 r] w fun e w' => e = .returned (.bool (nearB x y r)) ∧ w = w' := by
 unfold nearB
 by_cases h : 0 ≤ r
 · have hd : decide (0 ≤ r) = true := by simpa using h
   rw [hd, Bool.true_and]
   go_enter Tryz.func146, Tryz.ntmps146
   go_wp2_with (first
    | (go_at_call 176; ((with_reducible refine (squares_c _ _ hx hy _).mono ?_); rintro e w' ⟨rfl, rfl⟩))
    | (go_at_call 177; ((with_reducible refine (square_c _ hr _).mono ?_); rintro e w' ⟨rfl, rfl⟩)))
   go_ret
   exact ⟨rfl, rfl⟩
 · have hd : decide (0 ≤ r) = false := by simpa using h
   rw [hd, Bool.false_and]
   go_enter Tryz.func146, Tryz.ntmps146
   go_wp2_with (fail)
   go_ret
   exact ⟨rfl, rfl⟩

end Go.Proofs.YtfclnhmijjlhdaaGreatDoor.Tg
