/- What ReadRun of layer 6 (pack) returns; what it makes lies in new memory. -/
import Derived.Test.YtnjmmmclelmeiaaPkStr
namespace Go.Proofs.Ytnjmmmclelmeiaa.Pk
open Go.RowKit Go.Proofs.Ytnjmmmclelmeiaa.Fx

theorem told_of {r : List UInt8 × Nat × Nat} {l : List UInt8} {a b : Nat} {w w' : World} {v : Value} (h : r = (l, a, b)) (hv : Rd w' v l) (hb : Below w.heap.size w w') : Told r w (.returned (.tuple #[v, .int .i64 (a : Int), .int .i64 (b : Int)])) w' := by
  subst h
  exact ⟨v, rfl, hv, hb⟩

set_option maxRecDepth 100000 in
set_option maxHeartbeats 2000000 in
theorem readRun_c (s : ByteArray) (w : World) (hs : s.size ≤ 1073741824) :
    Calls Try.prog 59 #[.string s] w (Told (readR s.data.toList) w) := by
  have c1 := hid (fun W => read_c s W (by unfold maxLen; omega))
  have hr := rd_or s.data.toList
  have hbd := rd_bd s.data.toList
  have hst := fun h0 h1 => hid (RunTo.start (l := s.data.toList) h0 h1)
  have hrr : readR s.data.toList = (if (rdN s.data.toList).2.2 ≠ 0 then ([], 0, (rdN s.data.toList).2.2) else if 64 < (rdN s.data.toList).1 then ([], 0, 5) else readR s.data.toList) := by
    conv => lhs; unfold readR
    split
    · rfl
    · split
      · rfl
      · rename_i h1 h2
        unfold readR
        rw [if_neg h1, if_neg h2]
  have hsl : s.data.toList.length = s.size := (Lib.size_eq s).symm
  generalize rdN s.data.toList = r at c1 hr hbd hst hrr
  obtain ⟨cnt, b, c⟩ := r
  rw [show rdV (cnt, b, c) = .tuple #[.int .u64 (cnt : Int), .int .i64 (b : Int), .int .i64 (c : Int)] from rfl] at c1
  dsimp only at hr hbd hst hrr
  obtain ⟨hb1, hb2, hb3⟩ := hbd
  rw [hsl] at hb2
  by_cases hc : c = 0
  · subst hc
    rw [if_neg (by simp)] at hrr
    by_cases h64 : 64 < cnt
    · rw [if_pos h64] at hrr
      rw [hrr]
      clear hst hrr hr hsl
      go_enter Try.func59, Try.ntmps59
      go_wp2_with (go_at_call 63; ((with_reducible refine (c1.out _).mono ?_); rintro e w' ⟨rfl, rfl⟩))
      go_ret3
      exact ⟨_, rfl, Rd.nil _, Below.refl _ _⟩
    · have h1 := hst rfl h64
      have HSL := hid hsl
      clear hst hrr hr hsl
      go_enter Try.func59, Try.ntmps59
      go_wp2_with (go_at_call 63; ((with_reducible refine (c1.out _).mono ?_); rintro e w' ⟨rfl, rfl⟩))
      go_loopw [6, 8, 9] (fun z u f wr => ∃ (k lf : Nat) (out : List UInt8), z = .int .i64 k ∧ f = .int .i64 lf ∧ Hid (RunTo s.data.toList cnt k lf out) ∧ Own w.heap.size u out w wr) (fun _ _ f _ => (intOf f).toNat)
      case atStart => exact ⟨b, cnt, [], rfl, rfl, h1, Own.nil w⟩
      case round =>
        obtain ⟨k, lf, out, rfl, rfl, hrt, ho⟩ := hrel
        obtain ⟨hk, hlf⟩ : k ≤ s.size ∧ out.length + lf = cnt := by
          obtain ⟨_, h1, h2, _⟩ := hrt.out
          rw [HSL.out] at h1
          exact ⟨h1, h2⟩
        have hlf1 : lf ≤ 64 := by omega
        have hol : out.length ≤ 64 := by omega
        have HLF := hid hlf
        clear hlf
        by_cases h0 : lf = 0
        · subst h0
          have HF := hid hrt.out.fin
          go_wp2_with fail
          go_ret3
          exact told_of HF.out ho.rd ho.below
        · have h0' : 1 ≤ lf := by omega
          have cs := stretch_c (s.extract k s.size) u8 out lf wr (by rw [ByteArray.size_extract]; omega) ho.rd (by omega)
          rw [tail_list] at cs
          have HS := hid cs
          clear cs h0
          by_cases he : (stretchN (s.data.toList.drop k) out lf).2.2 = 0
          · have hn := hrt.out.next h0' he
            generalize stretchN (s.data.toList.drop k) out lf = r at HS he hn
            obtain ⟨l2, b2, c2⟩ := r
            obtain rfl : c2 = 0 := he
            dsimp only at hn
            obtain ⟨hn1, hn2, hn3, hn4⟩ := hn
            have HN := hid hn1
            rw [HSL.out] at hn4
            have hll : out.length + l2.length ≤ 140737488355328 := by omega
            clear hn1
            go_wp2_with (first
              | (go_at_call 64; ((with_reducible refine HS.out.mono ?_); rintro e w2 ⟨v2, rfl, hv2, hw2⟩; (have hv2 : Rd w2 v2 l2 := hv2); obtain ⟨ao2, L2, cap2, rfl, hL2, hc2, hm2, ht2⟩ := hv2; obtain ⟨b', o', rfl, hlt2, hcell⟩ := ht2 (by omega); have HL2 := hid hL2; have HC2 := hid hcell; clear hL2 hcell ht2))
              | (at_builtin; (refine append_own _ rfl (.tmp 46) (.tmp 47) rfl w.heap.size _ out w rfl (ho.old hw2) b' o' L2 cap2 l2 rfl HL2.out HC2.out hll ?_); intro v3 w3 ho3; obtain ⟨ao3, L3, cap3, rfl, hL3, hc3, hm3, ht3⟩ := ho3.rd; have HL3 := hid hL3; clear hL3 ht3))
            have hq : L3 = out.length + l2.length := by rw [← HL3.out, List.length_append]
            go_roundw
            case rel => exact ⟨k + b2, lf - l2.length, out ++ l2, by go_num, by have := HLF.out; congr 1; omega, HN, ho3⟩
            case measure => have := HLF.out; simp [intOf]; omega
          · have HF := hid (hrt.out.err h0' he)
            generalize stretchN (s.data.toList.drop k) out lf = r at HS he HF
            obtain ⟨l2, b2, c2⟩ := r
            dsimp only at he HF
            have hc2 : ((c2 : Int) != 0) = true := by simp; omega
            clear he
            go_wp2_with (go_at_call 64; ((with_reducible refine HS.out.mono ?_); rintro e w2 ⟨v2, rfl, hv2, hw2⟩))
            go_ret3
            exact told_of HF.out (Rd.nil _) (ho.below.trans (hw2.mono ho.below.size))
  · rw [if_pos hc] at hrr
    rw [hrr]
    have hc' : ((c : Int) != 0) = true := by simp; omega
    clear hr hc hst hrr hsl
    go_enter Try.func59, Try.ntmps59
    go_wp2_with (go_at_call 63; ((with_reducible refine (c1.out _).mono ?_); rintro e w' ⟨rfl, rfl⟩))
    go_ret3
    exact ⟨_, rfl, Rd.nil _, Below.refl _ _⟩
end Go.Proofs.Ytnjmmmclelmeiaa.Pk
