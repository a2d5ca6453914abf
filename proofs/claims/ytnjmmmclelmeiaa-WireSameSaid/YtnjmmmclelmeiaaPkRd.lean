/- A slice of bytes that is read: what it takes to read it; what Fits, alike and endsWith of layer 6 (pack), and the document's Fits and Same, return. -/
import Derived.Test.YtnjmmmclelmeiaaPkNum
import Derived.Deep.QuietTactic
import Derived.BigQuiet
import Derived.Deep.Draws
namespace Go.Proofs.Ytnjmmmclelmeiaa.Pk
open Go.RowKit Go.Proofs.Ytnjmmmclelmeiaa.Fx

/-- at ao the bytes l lie. -/
def Txt (w : World) (ao : Option Addr) (l : List UInt8) : Prop :=
  0 < l.length → ∃ b o, ao = some ⟨b, o, none⟩ ∧ b < w.heap.size ∧ ∀ j (h : j < l.length), w.cell? ⟨b, o + j, none⟩ = some (.int .u8 (l[j].toNat : Int))
/-- v is a slice that reads as l. -/
def Rd (w : World) (v : Value) (l : List UInt8) : Prop := ∃ ao L cap, v = .slice ao L cap ∧ l.length = L ∧ L ≤ cap ∧ cap ≤ 9223372036854775807 ∧ Txt w ao l

theorem Txt.at_ {w : World} {ao : Option Addr} {l : List UInt8} (h : Txt w ao l) (k : Nat) (hk : k < l.length) : ∃ b o, ao = some ⟨b, o, none⟩ ∧ w.cell? ⟨b, o + k, none⟩ = some (.int .u8 (l[k].toNat : Int)) := by
  obtain ⟨b, o, e, _, hc⟩ := h (by omega)
  exact ⟨b, o, e, hc k hk⟩
theorem Txt.two {w : World} {ao : Option Addr} {l : List UInt8} (h : Txt w ao l) (k j : Nat) (hk : k < l.length) (hj : j < l.length) :
    ∃ b o, ao = some ⟨b, o, none⟩ ∧ w.cell? ⟨b, o + k, none⟩ = some (.int .u8 (l[k].toNat : Int)) ∧ w.cell? ⟨b, o + j, none⟩ = some (.int .u8 (l[j].toNat : Int)) := by
  obtain ⟨b, o, e, _, hc⟩ := h (by omega)
  exact ⟨b, o, e, hc k hk, hc j hj⟩
theorem Txt.below {w w' : World} {ao : Option Addr} {l : List UInt8} (h : Txt w ao l) (hb : Below w.heap.size w w') : Txt w' ao l := fun hl => by
  obtain ⟨b, o, e, hlt, hc⟩ := h hl
  exact ⟨b, o, e, Nat.lt_of_lt_of_le hlt hb.size, fun j hj => (hb.cell (p := ⟨b, o + j, none⟩) hlt).trans (hc j hj)⟩
theorem Rd.below {w w' : World} {v : Value} {l : List UInt8} (h : Rd w v l) (hb : Below w.heap.size w w') : Rd w' v l := by
  obtain ⟨ao, L, cap, e, h1, h2, h3, h4⟩ := h
  exact ⟨ao, L, cap, e, h1, h2, h3, h4.below hb⟩
theorem Own.rd {B : Nat} {v : Value} {l : List UInt8} {W0 w : World} (h : Own B v l W0 w) : Rd w v l := by
  obtain ⟨ho, _, _⟩ := h
  rcases ho.2 with ⟨rfl, h0⟩ | ⟨g, cap, cur, fz, rfl, _, hg, _, hn, hm, _⟩
  · exact ⟨none, 0, 0, rfl, h0, Nat.le_refl _, by decide, fun h => by omega⟩
  · have hc := ho.cells (g := g) rfl
    refine ⟨_, _, cap, rfl, rfl, hn, by unfold maxLen at hm; omega, fun _ => ⟨g, 0, rfl, (Array.getElem?_eq_some_iff.1 hg).1, fun j hj => ?_⟩⟩
    have := hc j (.int .u8 (l[j].toNat : Int)) (by simp [Lib.byteCells, hj])
    rw [← this]
    congr 1
    unfold Addr.add
    split <;> simp_all

theorem low_take {l : List UInt8} {k : Nat} (hk : k < l.length) (h : lowB (l.take k) = true) (hx : l[k].toNat ≤ 63) : lowB (l.take (k + 1)) = true := by
  rw [List.take_succ_eq_append_getElem hk, low_append, h]
  unfold lowB
  simpa using hx
theorem low_not {l : List UInt8} {k : Nat} (hk : k < l.length) (hx : ¬ l[k].toNat ≤ 63) : lowB l = false := by
  rw [← Bool.not_eq_true]
  intro h
  unfold lowB at h
  rw [List.all_eq_true] at h
  have := h l[k] (List.getElem_mem hk)
  simp at this
  omega

set_option maxHeartbeats 400000 in
theorem fits_c (v : Value) (l : List UInt8) (w : World) (h : Rd w v l) :
    Calls Try.prog 26 #[v] w fun e w' => e = .returned (.bool (fitB l)) ∧ w = w' := by
  obtain ⟨ao, L, cap, rfl, hL, hc, hm, ht⟩ := h
  by_cases hlong : 64 < L
  · have e : fitB l = false := by unfold fitB; rw [hL]; simp; omega
    rw [e]
    clear e hL
    go_enter Try.func26, Try.ntmps26
    go_wp2
    go_ret
    exact ⟨rfl, rfl⟩
  · have e : fitB l = lowB l := by unfold fitB; rw [hL]; simp; omega
    rw [e]
    have HL := hid hL
    clear e hL
    go_enter Try.func26, Try.ntmps26
    go_wp2
    go_loop [10] (fun i => ∃ k : Nat, k ≤ L ∧ i = .int .i64 k ∧ Hid (lowB (l.take k) = true)) (fun i => L - (intOf i).toNat)
    case atStart => exact ⟨0, Nat.zero_le _, rfl, hid rfl⟩
    case round =>
      obtain ⟨k, hk, rfl, hr⟩ := hrel
      by_cases hlt : k < L
      · have hlt' : k < l.length := by rw [HL.out]; exact hlt
        obtain ⟨b, o, rfl, hcell⟩ := ht.at_ k hlt'
        have hx := l[k].toNat_lt
        by_cases h63 : l[k].toNat ≤ 63
        · have hn := hid (low_take hlt' hr.out h63)
          clear ht
          go_wp2_with fail
          go_round
          case rel => exact ⟨k + 1, by omega, by go_num, hn⟩
          case measure => simp [intOf]; omega
        · have hn := hid (low_not hlt' h63)
          clear ht
          go_wp2_with fail
          go_ret
          exact ⟨ret_bool hn.out.symm, rfl⟩
      · have hn : lowB l = true := by
          have := hr.out
          rwa [List.take_of_length_le (by rw [HL.out]; omega)] at this
        have HN := hid hn
        clear hn ht
        go_wp2_with fail
        go_ret
        exact ⟨ret_bool HN.out.symm, rfl⟩

set_option maxHeartbeats 400000 in
theorem rfits_c (v : Value) (l : List UInt8) (w : World) (h : Rd w v l) :
    Calls Try.prog 28 #[v] w fun e w' => e = .returned (.bool (fitB l)) ∧ w = w' := by
  obtain ⟨ao, L, cap, rfl, hL, hc, hm, ht⟩ := h
  have HL := hid hL
  clear hL
  go_enter Try.func28, Try.ntmps28
  go_wp2
  go_loop [3] (fun i => ∃ k : Nat, k ≤ L ∧ i = .int .i64 k ∧ Hid (lowB (l.take k) = true)) (fun i => L - (intOf i).toNat)
  case atStart => exact ⟨0, Nat.zero_le _, rfl, hid rfl⟩
  case round =>
    obtain ⟨k, hk, rfl, hr⟩ := hrel
    by_cases hlt : k < L
    · have hlt' : k < l.length := by rw [HL.out]; exact hlt
      obtain ⟨b, o, rfl, hcell⟩ := ht.at_ k hlt'
      have hx := l[k].toNat_lt
      by_cases h63 : l[k].toNat ≤ 63
      · have hn := hid (low_take hlt' hr.out h63)
        clear ht
        go_wp2_with fail
        go_round
        case rel => exact ⟨k + 1, by omega, by go_num, hn⟩
        case measure => simp [intOf]; omega
      · have hn := hid (low_not hlt' h63)
        clear ht
        go_wp2_with fail
        go_ret
        exact ⟨ret_bool (by unfold fitB; rw [hn.out, Bool.and_false]), rfl⟩
    · have hn : lowB l = true := by
        have := hr.out
        rwa [List.take_of_length_le (by rw [HL.out]; omega)] at this
      have hf : fitB l = decide ((L : Int) ≤ 64) := by unfold fitB; rw [hn, HL.out, Bool.and_true, decide_eq_decide]; omega
      have HN := hid hf
      clear hn ht hf
      go_wp2_with fail
      go_ret
      exact ⟨ret_bool HN.out.symm, rfl⟩

theorem lead_step : ∀ (l : List UInt8) (x : UInt8) (k : Nat) (hk : k < l.length), k ≤ leadN x l → (l[k] = x → k + 1 ≤ leadN x l) ∧ (l[k] ≠ x → leadN x l = k)
  | y :: t, x, 0, _, _ => by
    constructor
    · intro h
      have h : y = x := h
      subst h
      rw [lead_same]; omega
    · intro h
      exact lead_other x y t h
  | y :: t, x, k + 1, hk, h => by
    by_cases e : y = x
    · subst e
      rw [lead_same] at h ⊢
      have := lead_step t y k (by simpa using hk) (by omega)
      constructor
      · intro h1
        have := this.1 (by simpa using h1)
        omega
      · intro h1
        have := this.2 (by simpa using h1)
        omega
    · rw [lead_other x y t e] at h; omega

theorem toNat_eqB (x y : UInt8) : (((x.toNat : Int)) == (y.toNat : Int)) = (x == y) := by
  rw [Bool.eq_iff_iff]
  simp only [beq_iff_eq]
  constructor
  · intro h
    exact UInt8.toNat_inj.1 (by omega)
  · intro h
    rw [h]

set_option maxHeartbeats 1000000 in
theorem alike_c (v : Value) (x : UInt8) (t : List UInt8) (w : World) (h : Rd w v (x :: t)) (hl : (x :: t).length ≤ 1073741824) :
    Calls Try.prog 41 #[v] w fun e w' => e = .returned (.int .i64 ((leadN x t + 1 : Nat) : Int)) ∧ ∃ q, w' = w.drewN q := by
  rw [← lead_same]
  have hx0 : ∀ h : 0 < (x :: t).length, (x :: t)[0] = x := fun _ => rfl
  have hle := lead_le x (x :: t)
  have h1 : 0 < (x :: t).length := by simp
  generalize hgl : x :: t = l at h hl hx0 hle h1 ⊢
  clear hgl t
  obtain ⟨ao, L, cap, rfl, hL, hc, hm, ht⟩ := h
  rw [hL] at hl hle
  have HL := hid hL
  have hL1 : 0 < L := by omega
  clear hL
  have HX := hid hx0
  have H1 := hid h1
  clear h1 hx0
  go_enter Try.func41, Try.ntmps41
  go_wp2
  go_loopw [3] (fun i wr => ∃ k q : Nat, k ≤ L ∧ i = .int .i64 k ∧ wr = w.drewN q ∧ Hid (k ≤ leadN x l)) (fun i _ => L - (intOf i).toNat)
  case atStart => exact ⟨0, 0, Nat.zero_le _, rfl, rfl, hid (Nat.zero_le _)⟩
  case round =>
    obtain ⟨k, q, hk, rfl, rfl, hr⟩ := hrel
    by_cases hlt : k < L
    · have hlt' : k < l.length := by rw [HL.out]; exact hlt
      obtain ⟨b, o, rfl, hcell, hc0⟩ := ht.two k 0 hlt' H1.out
      rw [HX.out H1.out, Nat.add_zero] at hc0
      have hst := lead_step l x k hlt' hr.out
      have hk0 : (0 : Int) ≤ (k : Int) := by omega
      have hk1 : (k : Int) < (L : Int) := by omega
      by_cases he : l[k] = x
      · have hn := hid (hst.1 he)
        have hb : ((l[k].toNat : Int) == (x.toNat : Int)) = true := by rw [toNat_eqB]; simpa using he
        clear ht hst he
        go_wp2_with fail
        go_quiet (fail)
        go_wp2_with fail
        go_roundw
        case rel => exact ⟨k + 1, _, by omega, by go_num, rfl, hn⟩
        case measure => simp [intOf]; omega
      · have hn := hid (hst.2 he)
        have hb : ((l[k].toNat : Int) == (x.toNat : Int)) = false := by rw [toNat_eqB]; simpa using he
        clear ht hst he
        go_wp2_with fail
        go_quiet (fail)
        go_wp2_with fail
        go_ret
        exact ⟨ret_int (by rw [hn.out]), _, World.drewN_drewN _ _ _⟩
    · have hn : leadN x l = k := by have := hr.out; omega
      have HN := hid hn
      have hd : decide ((k : Int) < (L : Int)) = false := by simp; omega
      clear hn ht
      go_wp2_with fail
      go_quiet (fail)
      go_wp2_with fail
      go_ret
      exact ⟨ret_int (by rw [HN.out]), _, World.drewN_drewN _ _ _⟩

/-- is x the last one? -/
def endB (l : List UInt8) (x : UInt8) : Bool := decide (l.getLast? = some x)

theorem ends_c (v : Value) (l : List UInt8) (x : UInt8) (w : World) (h : Rd w v l) :
    Calls Try.prog 66 #[v, .int .u8 (x.toNat : Int)] w fun e w' => e = .returned (.bool (endB l x)) ∧ w = w' := by
  obtain ⟨ao, L, cap, rfl, hL, hc, hm, ht⟩ := h
  by_cases h0 : L = 0
  · have e : endB l x = false := by
      unfold endB
      rw [List.length_eq_zero_iff.1 (by omega : l.length = 0)]
      simp
    rw [e]
    have hz : ¬ 0 < L := by omega
    clear e hL h0 ht
    go_enter Try.func66, Try.ntmps66
    go_wp2
    go_ret
    exact ⟨rfl, rfl⟩
  · have hk : L - 1 < l.length := by omega
    obtain ⟨b, o, rfl, hcell⟩ := ht.at_ (L - 1) hk
    have hlast : l.getLast? = some l[L - 1] := by
      rw [List.getLast?_eq_getElem?, hL, List.getElem?_eq_getElem hk]
    have e : endB l x = ((l[L - 1].toNat : Int) == (x.toNat : Int)) := by
      rw [toNat_eqB]
      unfold endB
      rw [hlast, Bool.eq_iff_iff]
      simp
    rw [e]
    have hy := l[L - 1].toNat_lt
    generalize l[L - 1] = y at hcell hy
    obtain ⟨M, rfl⟩ : ∃ M, L = M + 1 := ⟨L - 1, by omega⟩
    have hcell' : w.cell? ⟨b, o + M, none⟩ = some (.int .u8 (y.toNat : Int)) := hcell
    clear e hL h0 ht hlast hk hcell
    go_enter Try.func66, Try.ntmps66
    go_wp2
    go_ret
    exact ⟨rfl, rfl⟩

set_option maxHeartbeats 1000000 in
theorem same_c (v u : Value) (l : List UInt8) (w : World) (h : Rd w v l) (h' : Rd w u l) :
    Calls Try.prog 34 #[v, u] w fun e w' => e = .returned (.bool true) ∧ ∃ q, w' = w.drewN q := by
  obtain ⟨ao, L, cap, rfl, hL, hc, hm, ht⟩ := h
  obtain ⟨ao', L', cap', rfl, hL', hc', hm', ht'⟩ := h'
  obtain rfl : L = L' := by omega
  have HL := hid hL
  clear hL hL'
  go_enter Try.func34, Try.ntmps34
  go_wp2
  go_loopw [5] (fun i wr => ∃ k q : Nat, k ≤ L ∧ i = .int .i64 k ∧ wr = w.drewN q) (fun i _ => L - (intOf i).toNat)
  case atStart => exact ⟨0, 0, Nat.zero_le _, rfl, rfl⟩
  case round =>
    obtain ⟨k, q, hk, rfl, rfl⟩ := hrel
    by_cases hlt : k < L
    · have hlt' : k < l.length := by rw [HL.out]; exact hlt
      obtain ⟨b, o, rfl, hcell⟩ := ht.at_ k hlt'
      obtain ⟨b', o', rfl, hcell'⟩ := ht'.at_ k hlt'
      have hk0 : (0 : Int) ≤ (k : Int) := by omega
      have hk1 : (k : Int) < (L : Int) := by omega
      generalize l[k] = y at hcell hcell'
      clear ht ht'
      go_wp2_with fail
      go_quiet (fail)
      go_wp2_with fail
      go_roundw
      case rel => exact ⟨k + 1, _, by omega, by go_num, rfl⟩
      case measure => simp [intOf]; omega
    · clear ht ht'
      go_wp2_with fail
      go_ret
      exact ⟨rfl, q, rfl⟩
end Go.Proofs.Ytnjmmmclelmeiaa.Pk
