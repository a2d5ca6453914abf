/- What Run of layer 6 (pack), and the document's Run, return; what they make lies in new memory. -/
import Derived.Test.YtnjmmmclelmeiaaPkRd
import Derived.Deep.RegionWith
import Derived.Deep.DeepCutAuto
namespace Go.Proofs.Ytnjmmmclelmeiaa.Pk
open Go.RowKit Go.Proofs.Ytnjmmmclelmeiaa.Fx

theorem run_no (v : Value) (l : List UInt8) (w : World) (h : Rd w v l) (hf : fitB l = false) :
    Calls Try.prog 21 #[v] w fun e w' => e = .returned (.tuple #[.string ⟨#[]⟩, .int .i64 1]) ∧ w = w' := by
  have H := hid (fits_c v l w h)
  rw [hf] at H
  clear hf
  go_enter Try.func21, Try.ntmps21
  go_wp2_with (go_at_call 26; ((with_reducible refine H.out.mono ?_); rintro e w' ⟨rfl, rfl⟩))
  go_ret2
  exact ⟨rfl, rfl⟩

theorem add_i (x : Int) (B : Nat) (v : Value) (l0 : List UInt8) (n : Nat) (W0 w : World) (hb : Own B v l0 W0 w) (hx : x = (n : Int)) (hn : n < 18446744073709551616) (hl : l0.length ≤ 1073741824) :
    Calls Try.prog 40 #[v, .int .u64 x] w (Gave B (l0 ++ numL n) W0) := by
  subst hx
  exact add_c B v l0 n W0 w hb hn hl

theorem Own.drewN {B : Nat} {v : Value} {l : List UInt8} {W0 w : World} (h : Own B v l W0 w) (q : Nat) : Own B v l W0 (w.drewN q) := Lib.OwnBuf.drewN h q

/-- a tail of a slice. -/
theorem Txt.cut {w : World} {ao : Option Addr} {l : List UInt8} (h : Txt w ao l) (k cap : Nat) (hk : k ≤ l.length) (hc : l.length ≤ cap) :
    Txt w (if cap = k then ao else ao.map (·.add k)) (l.drop k) := fun hl => by
  rw [List.length_drop] at hl
  obtain ⟨b, o, rfl, hlt, hcell⟩ := h (by omega)
  rw [if_neg (by omega)]
  refine ⟨b, o + k, ?_, hlt, fun j hj => ?_⟩
  · show some ((⟨b, o, none⟩ : Addr).add k) = _
    unfold Addr.add
    split <;> simp_all
  · rw [List.length_drop] at hj
    have := hcell (k + j) (by omega)
    rw [← Nat.add_assoc] at this
    rw [this]
    simp

theorem Txt.some_ {w : World} {b o k cap : Nat} {l : List UInt8} (h : Txt w (if cap = k then some ⟨b, o, none⟩ else (some (⟨b, o, none⟩ : Addr)).map (·.add k)) l) : Txt w (if cap = k then some ⟨b, o, none⟩ else some ⟨b, o + k, none⟩) l := by
  have e : (some (⟨b, o, none⟩ : Addr)).map (·.add k) = some ⟨b, o + k, none⟩ := by
    show some ((⟨b, o, none⟩ : Addr).add k) = _
    unfold Addr.add
    split <;> simp_all
  rwa [e] at h

/-- a slice's length. -/
def lenOf : Value → Nat | .slice _ n _ => n | _ => 0
theorem ret_strs {l k : List UInt8} {n : Int} (h : l = k) : Ending.returned (.tuple #[.string ⟨l.toArray⟩, .int .i64 n]) = .returned (.tuple #[.string ⟨k.toArray⟩, .int .i64 n]) := by rw [h]
theorem run_pos (l : List UInt8) : 0 < (runL l).length := by unfold runL; rw [List.length_append]; have := num_pos l.length; omega
theorem alike_k (v : Value) (x : UInt8) (t : List UInt8) (K : Nat) (w : World) (h : Rd w v (x :: t)) (hl : (x :: t).length ≤ 1073741824) (hk : leadN x t + 1 = K) :
    Calls Try.prog 41 #[v] w fun e w' => e = .returned (.int .i64 (K : Int)) ∧ ∃ q, w' = w.drewN q := by
  subst hk
  exact alike_c v x t w h hl

set_option maxRecDepth 100000 in
set_option maxHeartbeats 2000000 in
theorem run_ok (v : Value) (l : List UInt8) (w : World) (h : Rd w v l) (hf : fitB l = true) :
    Calls Try.prog 21 #[v] w fun e w' => e = .returned (.tuple #[.string ⟨(runL l).toArray⟩, .int .i64 0]) ∧ Below w.heap.size w w' := by
  have H := hid (fits_c v l w h)
  rw [hf] at H
  have hlen := fit_len hf
  have hrl := run_len l (by omega)
  clear hf
  obtain ⟨i0, hi, hz⟩ := Option.map_eq_some_iff.1 info_byte
  obtain ⟨hz0, hz1, hz2⟩ := info_parts hz
  have HI := hid hi
  have H0 := hid hz0
  have H1 := hid hz1
  have H2 := hid hz2
  clear hi hz hz0 hz1 hz2
  obtain ⟨ao, L, cap, rfl, hL, hc, hm, ht⟩ := h
  rw [hL] at hlen
  have HL := hid hL
  clear hL
  go_enter Try.func21, Try.ntmps21
  go_wp2_with (first
    | (go_at_call 26; ((with_reducible refine H.out.mono ?_); rintro e w' ⟨rfl, rfl⟩))
    | (go_at_call 40; ((with_reducible refine (add_i _ w.heap.size _ [] L w w (Own.nil w) rfl (by omega) (by simp)).mono ?_); rintro e w1 ⟨v1, rfl, ho⟩)))
  go_loopw [0, 4] (fun u b wr => ∃ (ao' : Option Addr) (L' cap' : Nat) (r acc : List UInt8), u = .slice ao' L' cap' ∧ Hid (r.length = L') ∧ L' ≤ 64 ∧ L' ≤ cap' ∧ cap' ≤ 9223372036854775807 ∧ Txt w ao' r ∧ Hid (acc ++ strL r = runL l) ∧ Own w.heap.size b acc w wr) (fun u _ _ => lenOf u)
  case atStart => exact ⟨ao, L, cap, l, _, rfl, HL, hlen, hc, hm, ht, hid (by unfold runL; rw [HL.out]; rfl), ho⟩
  case round =>
    obtain ⟨ao', L', cap', r, acc, rfl, hL', h64, hc', hm', ht', he, ho'⟩ := hrel
    cases r with
    | nil =>
      obtain rfl : 0 = L' := hL'.out
      have hq : acc = runL l := by have := he.out; rwa [str_nil, List.append_nil] at this
      have hs := ho'.string (by rw [hq]; exact run_pos l)
      have HQ := hid hq
      clear hq ht'
      go_wp2_with fail
      go_ret2
      exact ⟨ret_strs HQ.out, ho'.below⟩
    | cons x t =>
      have hl1 : 0 < L' := by have := hL'.out; simp at this; omega
      have hlx := lead_le x t
      have hll : acc.length + 1 ≤ 140737488355328 ∧ acc.length ≤ 1000000 := by
        have := congrArg List.length he.out
        rw [List.length_append] at this
        have := HL.out
        omega
      have hlt2 : (x :: t).length = L' := hL'.out
      have HA := hid (alike_k (.slice ao' L' cap') x t (leadN x t + 1) wr ⟨ao', L', cap', rfl, hlt2, hc', hm', ht'.below ho'.below⟩ (by omega) rfl)
      obtain ⟨b, o, e1, hcell⟩ := (ht'.below ho'.below).at_ 0 (by simp)
      have hcell : wr.cell? ⟨b, o, none⟩ = some (.int .u8 (x.toNat : Int)) := hcell
      have hcut := ht'.cut (leadN x t + 1) cap' (by simp; omega) (by omega)
      have he2 := he.out
      rw [str_cons] at he2
      have hK1 : leadN x t + 1 ≤ L' := by simp at hlt2; omega
      have hd : ((x :: t).drop (leadN x t + 1)).length = L' - (leadN x t + 1) := by rw [List.length_drop, hlt2]
      rw [List.drop_succ_cons] at hcut hd
      have hK0 : 1 ≤ leadN x t + 1 := by omega
      generalize leadN x t + 1 = K at HA hcut he2 hK1 hd hK0
      have HE : Hid ((acc ++ [x] ++ numL K) ++ strL (t.drop (leadN x t)) = runL l) := by
        have : (acc ++ [x] ++ numL K) ++ strL (t.drop (leadN x t)) = acc ++ x :: (numL K ++ strL (t.drop (leadN x t))) := by simp
        exact this.trans he2
      generalize t.drop (leadN x t) = r' at HE hcut hd
      have HD := hid hd
      clear he2 he hd hlt2 hlx ht'
      subst e1
      go_wp2_with (first
        | (go_at_call 41; ((with_reducible refine HA.out.mono ?_); rintro e w' ⟨rfl, q, rfl⟩))
        | (at_builtin; (refine Lib.wpList_append_byte rfl (.tmp 18) (.tmp 22) _ rfl w.heap.size 5 i0 Try.underlying24 HI.out H0.out H1.out H2.out _ acc.length (Lib.byteCells acc) rfl w _ _ (ho'.drewN q) rfl hll.1 ?_); intro v2 w2 ho2; have ho3 := Own.snoc (c := x) ho2 rfl)
        | (go_at_call 40; ((with_reducible refine (add_i _ w.heap.size _ (acc ++ [x]) K w _ ho3 rfl (by omega) (by rw [List.length_append]; simp; omega)).mono ?_); rintro e w3 ⟨v3, rfl, ho4⟩)))
      go_roundw
      case rel => exact ⟨_, _, _, r', acc ++ [x] ++ numL K, rfl, HD, by omega, by omega, by omega, hcut.some_, HE, ho4⟩
      case measure => show L' - K < L'; omega
end Go.Proofs.Ytnjmmmclelmeiaa.Pk
