/- What the document's Run of layer 6 (pack) returns; what it makes lies in new memory. -/
import Derived.Test.YtnjmmmclelmeiaaPkRun
import Derived.Deep.RegionHeld3
import Derived.Deep.DrawnRows
namespace Go.Proofs.Ytnjmmmclelmeiaa.Pk
open Go.RowKit Go.Proofs.Ytnjmmmclelmeiaa.Fx

/-- what holds ahead of input i, the stretch having begun at 'from'. -/
def StrTo (l : List UInt8) (i fr : Nat) (acc : List UInt8) : Prop :=
  fr ≤ i ∧ i ≤ l.length ∧ acc ++ strL (l.drop fr) = runL l ∧ ∃ x, l.drop fr = List.replicate (i - fr) x ++ l.drop i ∧ (fr < i → l[i]? = some x)
theorem StrTo.start (l : List UInt8) : StrTo l 0 0 (numL l.length) := ⟨Nat.le_refl _, Nat.zero_le _, by rw [List.drop_zero]; rfl, 0, by simp, fun h => by omega⟩
theorem StrTo.fin {l : List UInt8} {i fr : Nat} {acc : List UInt8} (h : StrTo l i fr acc) (hi : ¬ i < l.length) : acc = runL l := by
  obtain ⟨h1, h2, h3, x, h4, h5⟩ := h
  rcases Nat.lt_or_ge fr i with h | h
  · have := h5 h
    rw [List.getElem?_eq_none (by omega)] at this
    cases this
  · rw [List.drop_of_length_le (by omega : l.length ≤ fr), str_nil, List.append_nil] at h3
    exact h3
theorem StrTo.rep {l : List UInt8} {i fr : Nat} {acc : List UInt8} (h : StrTo l i fr acc) (hi : i < l.length) : l.drop fr = List.replicate (i + 1 - fr) l[i] ++ l.drop (i + 1) := by
  obtain ⟨h1, h2, h3, x, h4, h5⟩ := h
  have hd : l.drop i = l[i] :: l.drop (i + 1) := List.drop_eq_getElem_cons hi
  rcases Nat.lt_or_ge fr i with h | h
  · have hx := h5 h
    rw [List.getElem?_eq_getElem hi] at hx
    injection hx with hx
    rw [h4, hd, hx, show i + 1 - fr = (i - fr) + 1 by omega, List.replicate_succ', List.append_assoc]
    rfl
  · obtain rfl : fr = i := by omega
    rw [hd, show fr + 1 - fr = 1 by omega]
    rfl
/-- a stretch ends. -/
theorem StrTo.ends {l : List UInt8} {i fr : Nat} {acc : List UInt8} (h : StrTo l i fr acc) (hi : i < l.length) (he : (l.drop (i + 1)).head? ≠ some l[i]) : StrTo l (i + 1) (i + 1) (acc ++ l[i] :: numL (i + 1 - fr)) := by
  have hr := h.rep hi
  obtain ⟨h1, h2, h3, _⟩ := h
  refine ⟨Nat.le_refl _, hi, ?_, 0, by simp, fun h => by omega⟩
  rw [← h3, hr, str_rep l[i] _ _ (by omega) he]
  simp
/-- a stretch goes on. -/
theorem StrTo.on {l : List UInt8} {i fr : Nat} {acc : List UInt8} (h : StrTo l i fr acc) (hi : i + 1 < l.length) (he : l[i + 1] = l[i]) : StrTo l (i + 1) fr acc := by
  have hr := h.rep (by omega)
  obtain ⟨h1, h2, h3, _⟩ := h
  exact ⟨by omega, by omega, h3, l[i], hr, fun _ => by rw [List.getElem?_eq_getElem hi, he]⟩
theorem StrTo.len {l : List UInt8} {i fr : Nat} {acc : List UInt8} (h : StrTo l i fr acc) : acc.length ≤ (runL l).length := by
  have := congrArg List.length h.2.2.1
  rw [List.length_append] at this
  omega
theorem next_head {l : List UInt8} {i : Nat} (h : i + 1 < l.length) : (l.drop (i + 1)).head? = some l[i + 1] := by
  rw [List.head?_drop, List.getElem?_eq_getElem h]
theorem last_head {l : List UInt8} {i : Nat} (h : ¬ i + 1 < l.length) : (l.drop (i + 1)).head? = none := by
  rw [List.head?_drop, List.getElem?_eq_none (by omega)]

theorem one_conv (W : World) (g : Nat) (x : UInt8) (h : W.cell? ⟨g, 0, none⟩ = some (.int .u8 (x.toNat : Int))) : (convert 24 9 (.slice (some ⟨g, 0, none⟩) 1 1)).run Try.prog W = .ok (.string ⟨#[x]⟩) W :=
  run_convert_bytes_back (P := Try.prog) W 24 9 5 ⟨g, 0, none⟩ 1 [x] Try.underlying24 Try.underlying5 Try.underlying9 (fun j hj => by
    obtain rfl : j = 0 := by simpa using hj
    simpa [Addr.add] using h)
theorem conv_cell {W w2 : World} {q : Nat} {t : TypeId} {u : Value} (hb : Below ((W.drewN q).alloc (.cells #[u] t)).heap.size ((W.drewN q).alloc (.cells #[u] t)) w2) : w2.cell? ⟨W.heap.size, 0, none⟩ = some u := by
  have h1 : ((W.drewN q).alloc (.cells #[u] t)).cell? ⟨W.heap.size, 0, none⟩ = some u := by
    have := World.cell?_alloc_mark (W.drewN q) #[u] t (0, 0) 0
    exact this
  exact (hb.cell (p := ⟨W.heap.size, 0, none⟩) (by simp)).trans h1
theorem load_cell {W w2 : World} {q b o : Nat} {u : Value} (hlb : b < W.heap.size) (h : W.cell? ⟨b, o, none⟩ = some u) (hb : Below (W.drewN q).heap.size (W.drewN q) w2) : w2.cell? ⟨b, o, none⟩ = some u :=
  (hb.cell (p := ⟨b, o, none⟩) hlb).trans h
theorem below_a {W0 W w2 : World} {n q : Nat} {o : Obj} (h : Below n W0 W) (hb : Below ((W.drewN q).alloc o).heap.size ((W.drewN q).alloc o) w2) (hn : n ≤ W.heap.size := by exact Below.size ‹_›) : Below n W0 w2 := by
  have h1 : Below n W0 (W.drewN q) := ⟨h.os, h.tape, h.output, h.size, h.block⟩
  exact (h1.alloc hn o).trans (hb.mono (Nat.le_trans hn (by simp)))
theorem below_b {W0 W w2 : World} {n q : Nat} (h : Below n W0 W) (hb : Below (W.drewN q).heap.size (W.drewN q) w2) (hn : n ≤ W.heap.size := by exact Below.size ‹_›) : Below n W0 w2 := by
  have h1 : Below n W0 (W.drewN q) := ⟨h.os, h.tape, h.output, h.size, h.block⟩
  exact h1.trans (hb.mono hn)
attribute [local go_sem ↓] Go.wp_at_zero Go.wp_at_succ

set_option maxRecDepth 100000 in
set_option maxHeartbeats 4000000 in
theorem rrun_c (v : Value) (l : List UInt8) (w : World) (h : Rd w v l) (hf : l.length ≤ 64) :
    Calls Try.prog 32 #[v] w fun e w' => e = .returned (.string ⟨(runL l).toArray⟩) ∧ Below w.heap.size w w' := by
  have hrl := run_len l (by omega)
  obtain ⟨ao, L, cap, rfl, hL, hc, hm, ht⟩ := h
  rw [hL] at hf hrl
  have hst := StrTo.start l
  rw [hL] at hst
  have HST := hid hst
  have HL := hid hL
  clear hL hst
  go_enter Try.func32, Try.ntmps32
  go_wp2_with (go_at_call 50; ((with_reducible refine (rnumber_i _ L _ rfl (by omega)).mono ?_); rintro e w1 ⟨rfl, hw1⟩))
  go_loopw [3, 4, 5] (fun z f i wr => ∃ (k fr : Nat) (acc : List UInt8), i = .int .i64 k ∧ f = .int .i64 fr ∧ z = .string ⟨acc.toArray⟩ ∧ k ≤ L ∧ fr ≤ k ∧ Hid (StrTo l k fr acc) ∧ Below w.heap.size w wr) (fun _ _ i _ => L - (intOf i).toNat)
  case atStart => exact ⟨0, 0, _, rfl, rfl, rfl, Nat.zero_le _, Nat.le_refl _, HST, hw1⟩
  case round =>
    obtain ⟨k, fr, acc, rfl, rfl, rfl, hk, hfr, hs, hw⟩ := hrel
    have hal := hs.out.len
    by_cases hlt : k < L
    · have hlt' : k < l.length := by rw [HL.out]; exact hlt
      have hwt := ht.below hw
      have hx := l[k].toNat_lt
      have hk0 : (0 : Int) ≤ (k : Int) := by omega
      have hk1 : (k : Int) < (L : Int) := by omega
      by_cases hn1 : k + 1 < L
      · have hn1' : k + 1 < l.length := by rw [HL.out]; exact hn1
        obtain ⟨b, o, rfl, hc1, hc2⟩ := hwt.two (k + 1) k hn1' hlt'
        have hg : ((k : Int) == (L : Int) - 1) = false := by simp; omega
        have g1 : IntKind.i64.wrap ((L : Int) - 1) = (L : Int) - 1 := IntWalk.i64_in _ (by omega)
        have g2 : IntKind.i64.wrap ((k : Int) + 1) = (k : Int) + 1 := IntWalk.i64_in _ (by omega)
        have g3 : (0 : Int) ≤ (k : Int) + 1 := by omega
        have g4 : (k : Int) + 1 < (L : Int) := by omega
        have g5 : ((k : Int) + 1).toNat = k + 1 := by omega
        by_cases he : l[k + 1] = l[k]
        · have hq := hid (hs.out.on hn1' he)
          have hb : ((l[k + 1].toNat : Int) != (l[k].toNat : Int)) = false := by rw [he]; simp
          generalize l[k + 1] = y at hc1 hb
          generalize l[k] = x at hc2 hb
          clear ht hwt he hx
          go_wp2_with fail
          go_quiet (fail)
          clear g1 g2 g3 g4 g5
          go_wp2_with fail
          go_roundw
          case rel => exact ⟨k + 1, fr, acc, by go_num, rfl, rfl, by omega, by omega, hq, ⟨hw.os, hw.tape, hw.output, hw.size, hw.block⟩⟩
          case measure => simp [intOf]; omega
        · have hq := hid (hs.out.ends hlt' (by rw [next_head hn1']; intro c; injection c with c; exact he c))
          have hb : ((l[k + 1].toNat : Int) != (l[k].toNat : Int)) = true := by
            have := toNat_eqB l[k + 1] l[k]
            rw [bne, this]
            simpa using he
          generalize l[k + 1] = y at hc1 hb
          generalize l[k] = x at hc2 hb hq
          clear ht hwt he hx
          go_wp2_with fail
          go_quiet (fail)
          have hcv1 := one_run (wr.drewN (nq + 1)) (x.toNat : Int) x rfl
          rw [show (wr.drewN (nq + 1)).heap.size = wr.heap.size from rfl] at hcv1
          have hlb := World.block_lt_of_cell? wr _ hc2
          have ha1 := fun W => add_run acc [x] W (by simp; omega)
          have ha2 := fun W => add_run (acc ++ [x]) (numL (k + 1 - fr)) W (by have := num_len10 (k + 1 - fr) (by omega); rw [List.length_append]; simp; omega)
          have g6 : IntKind.i64.wrap ((k : Int) + 1 - (fr : Int)) = (k : Int) + 1 - (fr : Int) := IntWalk.i64_in _ (by omega)
          have g7 : IntKind.u64.wrap ((k : Int) + 1 - (fr : Int)) = (k : Int) + 1 - (fr : Int) := by rw [IntKind.wrap_u64]; omega
          have hnum := hid (fun W => rnumber_i ((k : Int) + 1 - (fr : Int)) (k + 1 - fr) W (by omega) (by omega))
          go_wp2_with fail
          go_region_with (go_at_call 50; refine (hnum.out _).mono ?_; rintro e w2 ⟨rfl, hw2⟩; have hcv3 := one_run w2 (x.toNat : Int) x rfl; (try have hcv2 := one_conv w2 wr.heap.size x (conv_cell hw2)); (try have hcl := load_cell hlb hc2 hw2))
          all_goals
            have hb2 : Below w.heap.size w w2 := by first | exact below_a hw hw2 | exact below_b hw hw2
            clear g1 g2 g3 g4 g5 g6 g7 hcv1 hcv3 ha1 ha2
            go_wp2_with fail
            go_roundw
            case rel => first | exact ⟨k + 1, k + 1, _, by go_num, by go_num, rfl, by omega, by omega, hq, hb2⟩ | exact ⟨k + 1, k + 1, _, by go_num, by go_num, rfl, by omega, by omega, hq, hb2.alloc hb2.size _⟩
            case measure => simp [intOf]; omega
      · have hn1' : ¬ k + 1 < l.length := by rw [HL.out]; exact hn1
        obtain ⟨b, o, rfl, hc2⟩ := hwt.at_ k hlt'
        have hg : ((k : Int) == (L : Int) - 1) = true := by simp; omega
        have g1 : IntKind.i64.wrap ((L : Int) - 1) = (L : Int) - 1 := IntWalk.i64_in _ (by omega)
        have g2 : IntKind.i64.wrap ((k : Int) + 1) = (k : Int) + 1 := IntWalk.i64_in _ (by omega)
        have g3 : (0 : Int) ≤ (k : Int) + 1 := by omega
        have g4 : (0 : Int) ≤ (k : Int) + 2 := by omega
        have g5 : ((k : Int) + 1).toNat = k + 1 := by omega
        have hq := hid (hs.out.ends hlt' (by rw [last_head hn1']; simp))
        generalize l[k] = x at hc2 hq
        clear ht hwt hx
        go_wp2_with fail
        go_quiet (fail)
        have hcv1 := one_run (wr.drewN (nq + 1)) (x.toNat : Int) x rfl
        rw [show (wr.drewN (nq + 1)).heap.size = wr.heap.size from rfl] at hcv1
        have hlb := World.block_lt_of_cell? wr _ hc2
        have ha1 := fun W => add_run acc [x] W (by simp; omega)
        have ha2 := fun W => add_run (acc ++ [x]) (numL (k + 1 - fr)) W (by have := num_len10 (k + 1 - fr) (by omega); rw [List.length_append]; simp; omega)
        have g6 : IntKind.i64.wrap ((k : Int) + 1 - (fr : Int)) = (k : Int) + 1 - (fr : Int) := IntWalk.i64_in _ (by omega)
        have g7 : IntKind.u64.wrap ((k : Int) + 1 - (fr : Int)) = (k : Int) + 1 - (fr : Int) := by rw [IntKind.wrap_u64]; omega
        have hnum := hid (fun W => rnumber_i ((k : Int) + 1 - (fr : Int)) (k + 1 - fr) W (by omega) (by omega))
        go_wp2_with fail
        go_region_with (go_at_call 50; refine (hnum.out _).mono ?_; rintro e w2 ⟨rfl, hw2⟩; have hcv3 := one_run w2 (x.toNat : Int) x rfl; (try have hcv2 := one_conv w2 wr.heap.size x (conv_cell hw2)); (try have hcl := load_cell hlb hc2 hw2))
        all_goals
          have hb2 : Below w.heap.size w w2 := by first | exact below_a hw hw2 | exact below_b hw hw2
          clear g1 g2 g3 g4 g5 g6 g7 hcv1 hcv3 ha1 ha2
          go_wp2_with fail
          go_roundw
          case rel => first | exact ⟨k + 1, k + 1, _, by go_num, by go_num, rfl, by omega, by omega, hq, hb2⟩ | exact ⟨k + 1, k + 1, _, by go_num, by go_num, rfl, by omega, by omega, hq, hb2.alloc hb2.size _⟩
          case measure => simp [intOf]; omega
    · have HF := hid (hs.out.fin (by rw [HL.out]; exact hlt))
      go_wp2_with fail
      go_ret
      exact ⟨ret_str HF.out, hw⟩
end Go.Proofs.Ytnjmmmclelmeiaa.Pk
