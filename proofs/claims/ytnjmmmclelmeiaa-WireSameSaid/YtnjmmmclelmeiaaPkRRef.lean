/- What the document's ReadRun of layer 6 (pack) returns; what it makes lies in new memory. -/
import Derived.Test.YtnjmmmclelmeiaaPkRR
namespace Go.Proofs.Ytnjmmmclelmeiaa.Pk
open Go.RowKit Go.Proofs.Ytnjmmmclelmeiaa.Fx

theorem Own.empty (w : World) : Own w.heap.size (.slice (some ⟨w.heap.size, 0, none⟩) 0 0) [] w (w.alloc (.cells #[] 5)) :=
  ⟨⟨rfl, .inr ⟨w.heap.size, 0, #[], (0, 0), rfl, Nat.le_refl _, heap_alloc_new w _, Nat.le_refl _, Nat.le_refl _, by unfold maxLen; omega, rfl, rfl⟩⟩, (Below.refl _ w).alloc (Nat.le_refl _) _, by simp⟩

/-- one stretch, case by case. -/
theorem str_high {x : UInt8} {t out : List UInt8} {left : Nat} (h : 63 < x.toNat ∨ out.getLast? = some x) : stretchN (x :: t) out left = ([], 0, 4) := by
  show (if 63 < x.toNat ∨ out.getLast? = some x then _ else _) = _
  rw [if_pos h]
theorem str_err {x : UInt8} {t out : List UInt8} {left : Nat} (h1 : ¬ 63 < x.toNat) (h2 : out.getLast? ≠ some x) (h3 : (rdN t).2.2 ≠ 0) : stretchN (x :: t) out left = ([], 0, (rdN t).2.2) := by
  show (if 63 < x.toNat ∨ out.getLast? = some x then _ else _) = _
  rw [if_neg (by rintro (h | h); exact h1 h; exact h2 h), if_pos h3]
theorem str_many {x : UInt8} {t out : List UInt8} {left : Nat} (h1 : ¬ 63 < x.toNat) (h2 : out.getLast? ≠ some x) (h3 : (rdN t).2.2 = 0) (h4 : (rdN t).1 = 0 ∨ left < (rdN t).1) : stretchN (x :: t) out left = ([], 0, 4) := by
  show (if 63 < x.toNat ∨ out.getLast? = some x then _ else _) = _
  rw [if_neg (by rintro (h | h); exact h1 h; exact h2 h), if_neg (by rw [h3]; simp), if_pos h4]

/-- the last one of what is owned. -/
theorem Rd.last {w : World} {ao : Option Addr} {L cap : Nat} {l : List UInt8} (h : Rd w (.slice ao L cap) l) (hL : 0 < L) :
    ∃ b o y, ao = some ⟨b, o, none⟩ ∧ w.cell? ⟨b, o + (L - 1), none⟩ = some (.int .u8 (y.toNat : Int)) ∧ l.getLast? = some y := by
  obtain ⟨ao', L', cap', e, h1, _, _, ht⟩ := h
  injection e with e1 e2 e3
  subst e1 e2 e3
  obtain ⟨b, o, rfl, hc⟩ := ht.at_ (L - 1) (by omega)
  subst h1
  exact ⟨b, o, l[l.length - 1], rfl, hc, by rw [List.getLast?_eq_getElem?]; exact List.getElem?_eq_getElem (by omega)⟩

set_option maxRecDepth 100000 in
set_option maxHeartbeats 4000000 in
theorem rreadRun_c (s : ByteArray) (w : World) (hs : s.size ≤ 1073741824) :
    Calls Try.prog 52 #[.string s] w (Told (readR s.data.toList) w) := by
  have c0 := hid (fun k W => rread_c (s.extract k s.size) W (by rw [ByteArray.size_extract]; unfold maxLen; omega))
  have c1 := hid (fun W => rread_c s W (by unfold maxLen; omega))
  have hr := rd_or s.data.toList
  have hbd := rd_bd s.data.toList
  have hst := fun h0 h1 => hid (RunTo.start (l := s.data.toList) h0 h1)
  have hrr : readR s.data.toList = (if (rdN s.data.toList).2.2 ≠ 0 then ([], 0, (rdN s.data.toList).2.2) else if 64 < (rdN s.data.toList).1 then ([], 0, 5) else readR s.data.toList) := by
    conv => lhs; unfold readR
    split
    · rfl
    · split
      · rfl
      · rename_i h1 h2
        unfold readR
        rw [if_neg h1, if_neg h2]
  have hsl : s.data.toList.length = s.size := (Lib.size_eq s).symm
  obtain ⟨i0, hi, hz⟩ := Option.map_eq_some_iff.1 info_byte
  obtain ⟨hz0, hz1, hz2⟩ := info_parts hz
  have HI := hid hi
  have H0 := hid hz0
  have H1 := hid hz1
  have H2 := hid hz2
  clear hi hz hz0 hz1 hz2
  generalize rdN s.data.toList = r at c1 hr hbd hst hrr
  obtain ⟨cnt, b, c⟩ := r
  rw [show rdV (cnt, b, c) = .tuple #[.int .u64 (cnt : Int), .int .i64 (b : Int), .int .i64 (c : Int)] from rfl] at c1
  dsimp only at hr hbd hst hrr
  obtain ⟨hb1, hb2, hb3⟩ := hbd
  rw [hsl] at hb2
  by_cases hc : c = 0
  · subst hc
    rw [if_neg (by simp)] at hrr
    by_cases h64 : 64 < cnt
    · rw [if_pos h64] at hrr
      rw [hrr]
      clear hst hrr hr hsl
      go_enter Try.func52, Try.ntmps52
      go_wp2_with (go_at_call 53; ((with_reducible refine (c1.out _).mono ?_); rintro e w' ⟨rfl, rfl⟩))
      go_ret3
      exact ⟨_, rfl, Rd.nil _, Below.refl _ _⟩
    · have h1 := hst rfl h64
      have HSL := hid hsl
      clear hst hrr hr hsl
      go_enter Try.func52, Try.ntmps52
      go_wp2_with (go_at_call 53; ((with_reducible refine (c1.out _).mono ?_); rintro e w' ⟨rfl, rfl⟩))
      go_loopw [6, 8] (fun z u wr => ∃ (k lf : Nat) (out : List UInt8) (ao : Option Addr) (L cap : Nat), z = .int .i64 k ∧ u = .slice ao L cap ∧ Hid (out.length = L) ∧ L ≤ 64 ∧ Hid (RunTo s.data.toList cnt k lf out) ∧ Own w.heap.size (.slice ao L cap) out w wr) (fun _ u _ => cnt - lenOf u)
      case atStart => exact ⟨b, cnt, [], _, 0, 0, rfl, rfl, hid rfl, by omega, h1, Own.empty w⟩
      case round =>
        obtain ⟨k, lf, out, ao, L, cap, rfl, rfl, hL, hL64, hrt, ho⟩ := hrel
        obtain ⟨hk, hlf⟩ : k ≤ s.size ∧ L + lf = cnt := by
          obtain ⟨_, h1, h2, _⟩ := hrt.out
          rw [HSL.out] at h1
          rw [hL.out] at h2
          exact ⟨h1, h2⟩
        have HLF := hid hlf
        by_cases h0 : lf = 0
        · subst h0
          have HF := hid hrt.out.fin
          have hq : ¬ L < cnt := by omega
          clear hlf
          go_wp2_with fail
          go_ret3
          exact told_of HF.out ho.rd ho.below
        · have h0' : 1 ≤ lf := by omega
          have hq : L < cnt := by omega
          clear hlf h0
          by_cases hks : k < s.size
          · have hl := drop_cons s k hks
            have hx := s[k].toNat_lt
            by_cases h63 : 63 < s[k].toNat
            · have hf := hrt.out.err h0' (by rw [hl, str_high (.inl h63)]; show 4 ≠ 0; decide)
              rw [hl, str_high (.inl h63)] at hf
              have HF := hid hf
              clear hl hf
              go_wp2_with fail
              go_ret3
              exact told_of HF.out (Rd.nil _) ho.below
            · by_cases hla : out.getLast? = some s[k]
              · have hf := hrt.out.err h0' (by rw [hl, str_high (.inr hla)]; show 4 ≠ 0; decide)
                rw [hl, str_high (.inr hla)] at hf
                have HF := hid hf
                have hLp : 0 < L := by
                  have := hL.out
                  cases out with
                  | nil => simp at hla
                  | cons y t => simp at this; omega
                obtain ⟨b', o', y, e1, hcell, hy⟩ := ho.rd.last hLp
                have hyx : y = s[k] := by rw [hla] at hy; injection hy with hy; exact hy.symm
                subst hyx
                subst e1
                obtain ⟨M, rfl⟩ : ∃ M, L = M + 1 := ⟨L - 1, by omega⟩
                have hcell' : wr.cell? ⟨b', o' + M, none⟩ = some (.int .u8 (s[k].toNat : Int)) := hcell
                clear hl hf hla hy hcell
                go_wp2_with fail
                go_ret3
                exact told_of HF.out (Rd.nil _) ho.below
              · have c2 := hid (fun W => c0.out (k + 1) W)
                rw [tail_list] at c2
                have hr2 := rd_bd (s.data.toList.drop (k + 1))
                have hsz : (s.data.toList.drop (k + 1)).length ≤ s.size := by rw [List.length_drop, HSL.out]; omega
                have hlast : ¬ 0 < L ∨ ∃ (b' o' y M : Nat), ao = some ⟨b', o', none⟩ ∧ L = M + 1 ∧ wr.cell? ⟨b', o' + M, none⟩ = some (.int .u8 (y : Int)) ∧ ((y : Int) == (s[k].toNat : Int)) = false ∧ y < 256 := by
                  by_cases hLp : 0 < L
                  · right
                    obtain ⟨b', o', y, e1, hcell, hy⟩ := ho.rd.last hLp
                    refine ⟨b', o', y.toNat, L - 1, e1, by omega, hcell, ?_, y.toNat_lt⟩
                    rw [toNat_eqB, beq_eq_false_iff_ne]
                    intro h
                    rw [h] at hy
                    exact hla hy
                  · exact .inl hLp
                by_cases hc2 : (rdN (s.data.toList.drop (k + 1))).2.2 = 0
                · by_cases hmany : (rdN (s.data.toList.drop (k + 1))).1 = 0 ∨ lf < (rdN (s.data.toList.drop (k + 1))).1
                  · have hf := hrt.out.err h0' (by rw [hl, str_many h63 hla hc2 hmany]; show 4 ≠ 0; decide)
                    rw [hl, str_many h63 hla hc2 hmany] at hf
                    have HF := hid hf
                    clear hl hf hla
                    generalize rdN (s.data.toList.drop (k + 1)) = r at c2 hr2 hc2 hmany
                    obtain ⟨a2, b2, e2⟩ := r
                    rw [show rdV (a2, b2, e2) = .tuple #[.int .u64 (a2 : Int), .int .i64 (b2 : Int), .int .i64 (e2 : Int)] from rfl] at c2
                    dsimp only at hr2 hc2 hmany
                    subst hc2
                    have hm2 : a2 = 0 ∨ (((a2 : Int) == 0) = false ∧ (cnt : Int) - (L : Int) < (a2 : Int)) := by
                      have := HLF.out
                      by_cases h : a2 = 0
                      · exact .inl h
                      · right; exact ⟨by simp; omega, by omega⟩
                    clear hmany
                    rcases hm2 with rfl | ⟨hm3, hm4⟩
                    all_goals
                      rcases hlast with hLz | ⟨b', o', y, M, rfl, rfl, hcell, hne, hy⟩
                      all_goals
                        go_wp2_with (go_at_call 53; ((with_reducible refine (c2.out _).mono ?_); rintro e w' ⟨rfl, rfl⟩))
                        go_ret3
                        exact told_of HF.out (Rd.nil _) ho.below
                  · have hso := stretch_ok s[k] (s.data.toList.drop (k + 1)) out lf (by omega) hla hc2 (by omega) (by omega)
                    have hn := (hrt.out.next h0' (by rw [hl, hso])).1
                    rw [hl, hso] at hn
                    dsimp only at hn
                    rw [List.length_replicate] at hn
                    have HN := hid hn
                    clear hl hn hla hso
                    generalize rdN (s.data.toList.drop (k + 1)) = r at c2 hr2 hc2 hmany HN
                    obtain ⟨a2, b2, e2⟩ := r
                    rw [show rdV (a2, b2, e2) = .tuple #[.int .u64 (a2 : Int), .int .i64 (b2 : Int), .int .i64 (e2 : Int)] from rfl] at c2
                    dsimp only at hr2 hc2 hmany HN
                    subst hc2
                    have hm3 : ((a2 : Int) == 0) = false := by simp; omega
                    have hm4 : ¬ (cnt : Int) - (L : Int) < (a2 : Int) := by have := HLF.out; omega
                    have ha2 : a2 ≤ 64 := by have := HLF.out; omega
                    have hal : a2 ≤ lf := by omega
                    have hcl : L + a2 ≤ cnt := by have := HLF.out; omega
                    have hb2' : b2 ≤ 1073741824 := by omega
                    clear hmany
                    rcases hlast with hLz | ⟨b', o', y, M, rfl, rfl, hcell, hne, hy⟩
                    all_goals
                      go_wp2_with (go_at_call 53; ((with_reducible refine (c2.out _).mono ?_); rintro e w' ⟨rfl, rfl⟩))
                      go_loopw [8, 13] (fun u i wr2 => ∃ (j : Nat) (ao2 : Option Addr) (L2 cap2 : Nat), i = .int .u64 j ∧ j ≤ a2 ∧ u = .slice ao2 L2 cap2 ∧ Hid ((out ++ List.replicate j s[k]).length = L2) ∧ Own w.heap.size (.slice ao2 L2 cap2) (out ++ List.replicate j s[k]) w wr2) (fun _ i _ => a2 - (intOf i).toNat)
                      case atStart => exact ⟨0, _, _, _, rfl, by omega, rfl, hid (by rw [List.replicate_zero, List.append_nil]; exact hL.out), by rw [List.replicate_zero, List.append_nil]; exact ho⟩
                      case round =>
                        obtain ⟨j, ao2, L2, cap2, rfl, hj, rfl, hL2, ho2⟩ := hrel
                        have hll : (out ++ List.replicate j s[k]).length + 1 ≤ 140737488355328 := by have := hL.out; rw [List.length_append, List.length_replicate]; omega
                        by_cases hjl : j < a2
                        · have hap : out ++ List.replicate j s[k] ++ [s[k]] = out ++ List.replicate (j + 1) s[k] := by rw [List.append_assoc, ← List.replicate_succ']
                          have HAP := hid hap
                          clear hap
                          go_wp2_with (at_builtin; (refine Lib.wpList_append_byte rfl (.tmp 83) (.tmp 85) _ rfl w.heap.size 5 i0 Try.underlying24 HI.out H0.out H1.out H2.out _ (out ++ List.replicate j s[k]).length (Lib.byteCells (out ++ List.replicate j s[k])) rfl w _ _ ho2 rfl hll ?_); intro v3 w3 ho3; have ho4 := Own.snoc (c := s[k]) ho3 rfl; rw [HAP.out] at ho4; obtain ⟨ao3, L3, cap3, rfl, hL3, hc3, hm3, ht3⟩ := ho4.rd; have HL3 := hid hL3; clear hL3 ht3 ho3)
                          go_roundw
                          case rel => exact ⟨j + 1, ao3, L3, cap3, by go_num, by omega, rfl, HL3, ho4⟩
                          case measure => simp [intOf]; omega
                        · obtain rfl : j = a2 := by omega
                          have hq2 : L2 = out.length + j := by rw [← hL2.out, List.length_append, List.length_replicate]
                          have HQ2 := hid hq2
                          clear hq2
                          go_wp2_with fail
                          have hq3 := HQ2.out
                          have hq4 := hL.out
                          have hj1 : 1 ≤ j := by
                            rcases Nat.eq_zero_or_pos j with h | h
                            · subst h; simp at hm3
                            · exact h
                          refine ⟨⟨k + (1 + b2), lf - j, out ++ List.replicate j s[k], ao2, L2, cap2, by congr 1; omega, rfl, hL2, by omega, HN, ho2⟩, ?_⟩
                          simp only [lenOf]
                          omega
                · have hf := hrt.out.err h0' (by rw [hl, str_err h63 hla hc2]; exact hc2)
                  rw [hl, str_err h63 hla hc2] at hf
                  have HF := hid hf
                  clear hl hf hla
                  generalize rdN (s.data.toList.drop (k + 1)) = r at c2 hr2 HF hc2
                  obtain ⟨a2, b2, e2⟩ := r
                  rw [show rdV (a2, b2, e2) = .tuple #[.int .u64 (a2 : Int), .int .i64 (b2 : Int), .int .i64 (e2 : Int)] from rfl] at c2
                  dsimp only at hr2 HF hc2
                  have hc3 : ((e2 : Int) != 0) = true := by simp; omega
                  clear hc2
                  rcases hlast with hLz | ⟨b', o', y, M, rfl, rfl, hcell, hne, hy⟩
                  all_goals
                    go_wp2_with (go_at_call 53; ((with_reducible refine (c2.out _).mono ?_); rintro e w' ⟨rfl, rfl⟩))
                    go_ret3
                    exact told_of HF.out (Rd.nil _) ho.below
          · have hd : s.data.toList.drop k = [] := List.drop_of_length_le (by rw [HSL.out]; omega)
            have hf := hrt.out.err h0' (by rw [hd]; show 3 ≠ 0; decide)
            rw [hd] at hf
            have HF := hid hf
            clear hd hf
            go_wp2_with fail
            go_ret3
            exact told_of HF.out (Rd.nil _) ho.below
  · rw [if_pos hc] at hrr
    rw [hrr]
    have hc' : ((c : Int) != 0) = true := by simp; omega
    clear hr hc hst hrr hsl
    go_enter Try.func52, Try.ntmps52
    go_wp2_with (go_at_call 53; ((with_reducible refine (c1.out _).mono ?_); rintro e w' ⟨rfl, rfl⟩))
    go_ret3
    exact ⟨_, rfl, Rd.nil _, Below.refl _ _⟩
end Go.Proofs.Ytnjmmmclelmeiaa.Pk
