/- The law CableKeeps answers true: nothing comes of nothing. (Written by gen/cbkeeps.py.) -/
import Derived.Test.YtfifoikphhjomaaCbKp
import Derived.Deep.RegionHeld3
import Derived.Deep.RegionWith
import Derived.Deep.DrawnRows
import Derived.Deep.RegionLaw
namespace Go.Proofs.Ytfifoikphhjomaa.Cb
open Go.RowKit Go.Proofs.Ytfifoikphhjomaa.Rg
set_option linter.unusedVariables false
set_option linter.unusedSimpArgs false
attribute [local go_sem ↓] Go.wp_at_zero Go.wp_at_succ

set_option maxRecDepth 100000 in
theorem keeps_wrong (size : Int) (ad : Option Addr) (len cap : Nat) (w : World) (h : ¬ (1 ≤ size ∧ size ≤ 64)) :
    Calls Try.prog 4 #[.int .i64 size, .slice ad len cap] w fun e w' => e = .returned (.bool true) ∧ Below w.heap.size w w' := by
  have H := hid h
  clear h
  go_enter Try.func4, Try.ntmps4
  go_wp2_with (first
    | (go_at_call 6; ((with_reducible refine (awake_c _).mono ?_); rintro e w1 ⟨rfl, hB⟩))
    | (go_at_call 7; ((with_reducible refine (cnew_no _ H.out _).mono ?_); rintro e w2 ⟨rfl, rfl⟩)))
  go_ret
  exact ⟨rfl, hB⟩

theorem kp_new {w w1 w2 : World} {size : Nat} (hB1 : Below w.heap.size w w1) (hB2 : Below w1.heap.size w1 w2) {bs : Nat → Nat} {caps : Nat → Nat} (hc : Cab w2 w.heap.size size w1.heap.size bs (fun _ => none) caps ⟨fun _ => [], 0⟩) :
    Kp w (w2.alloc (.cells #[.slice none 0 0, .slice none 0 0] 30)) w1.heap.size w2.heap.size size ⟨fun _ => [], 0⟩ (fun _ => []) := by
  have hB3 : Below w.heap.size w w2 := hB1.trans (hB2.mono hB1.size)
  refine ⟨⟨bs, _, caps, fun _ => none, fun _ => 0, hc.old ((Below.refl _ w2).alloc (Nat.le_refl _) _), ⟨heap_alloc_new w2 _, hB3.size, fun t ht => World.ownsRow_nil _ _ _ _, fun t s _ _ _ a a' ha => by cases ha⟩, ?_⟩, hB3.alloc hB3.size _⟩
  rintro i hi (rfl | ⟨t, _, a, ha, _⟩)
  · have := hc.footLt _ hi
    omega
  · cases ha

set_option maxRecDepth 100000 in
set_option maxHeartbeats 8000000 in
theorem keeps_main (size : Nat) (ad : Option Addr) (len cap : Nat) (w : World) (h1 : 1 ≤ size) (h2 : size ≤ 64) (hc : Acts w ad len) :
    Calls Try.prog 4 #[.int .i64 size, .slice ad len cap] w fun e w' => e = .returned (.bool true) ∧ Below w.heap.size w w' := by
  obtain ⟨y0, hi, hz0, hz1, hz2⟩ := info_parts info_str
  go_enter Try.func4, Try.ntmps4
  go_wp2_with fail
  refine (awake_c _).mono ?_
  rintro e w1 ⟨rfl, hB1⟩
  go_wp2_with fail
  refine (cnew_c w.heap.size size ⟨h1, h2⟩ _ hB1.size).mono ?_
  rintro e w2 ⟨rfl, hr, hB2⟩
  go_wp2_with fail
  have hm0 := kp_new hB1 hB2 hr
  generalize w2.alloc (.cells #[.slice none 0 0, .slice none 0 0] 30) = w3 at hm0 ⊢
  generalize w1.heap.size = b at hm0 ⊢
  generalize w2.heap.size = sb at hm0 ⊢
  clear hr hB1 hB2
  go_loopg [8, 9] 150 (fun gk s8 s9 wr => ∃ (k out : Nat) (st : St) (S : Nat → List ByteArray), gk + k = 150 ∧ s8 = .int .i64 out ∧ s9 = .int .i64 k ∧ Ok size st ∧ Sub st S ∧ (S 0).length + (S 1).length = out + total st ∧ (S 0).length + (S 1).length ≤ k ∧ Kp w wr b sb size st S)
  case atStart => exact ⟨0, 0, ⟨fun _ => [], 0⟩, fun _ => [], rfl, rfl, rfl, Ok.new size, Sub.new, rfl, Nat.le_refl _, hm0⟩
  case round =>
    obtain ⟨k, out, st, S, hk, rfl, rfl, ok, hsub, hsum, hsk, hI⟩ := hrel
    clear hm0
    have htot : st.lost ≤ total st := lost_total st
    have hout : out ≤ 150 := by omega
    by_cases hlt : k < len ∧ k < 150
    · obtain ⟨hlt, hk1⟩ := hlt
      obtain ⟨c, off, ⟨kd, dd, ii, s, at_, by_⟩, rfl, hcl, hin, c0, c1, c2, c3, c4, c5⟩ := hc k hlt
      dsimp only at c0 c1 c2 c3 c4 c5
      replace c0 := (hI.old.cell (p := ⟨c, off + k * 6, none⟩) hcl).trans c0
      replace c1 := (hI.old.cell (p := ⟨c, off + k * 6 + 1, none⟩) hcl).trans c1
      replace c2 := (hI.old.cell (p := ⟨c, off + k * 6 + 2, none⟩) hcl).trans c2
      replace c3 := (hI.old.cell (p := ⟨c, off + k * 6 + 3, none⟩) hcl).trans c3
      replace c4 := (hI.old.cell (p := ⟨c, off + k * 6 + 4, none⟩) hcl).trans c4
      replace c5 := (hI.old.cell (p := ⟨c, off + k * 6 + 5, none⟩) hcl).trans c5
      have e1 : ((k : Int) < (150 : Int)) := by omega
      have hA : ActAt (wr.alloc (.cells #[.int .i64 kd, .int .i64 dd, .int .i64 ii, .string s, .int .i64 at_, .int .u8 by_] 34)) wr.heap.size ⟨kd, dd, ii, s, at_, by_⟩ := ActAt.new wr ⟨kd, dd, ii, s, at_, by_⟩
      have hI1 := hI.keep ((Below.refl _ wr).alloc (Nat.le_refl _) (.cells #[.int .i64 kd, .int .i64 dd, .int .i64 ii, .string s, .int .i64 at_, .int .u8 by_] 34))
      go_upto_region 12 with (fail)
      clear c0 c1 c2 c3 c4 c5 hI
      generalize wr.alloc (.cells #[.int .i64 kd, .int .i64 dd, .int .i64 ii, .string s, .int .i64 at_, .int .u8 by_] 34) = w4 at hA hI1 ⊢
      generalize wr.heap.size = xb at hA ⊢
      obtain ⟨a0, a1, a2, a3, -, -⟩ := hA.cell
      dsimp only at a0 a1 a2 a3
      by_cases hbig : 400 < s.size
      · have d5 : decide (400 < (s.size : Int)) = true := by simp; omega
        go_wp2_with fail
        go_roundg (149 - k)
        case measure => omega
        case rel => exact ⟨k + 1, out, st, S, by omega, by go_num, by go_num, ok, hsub, hsum, by omega, hI1⟩
      have d5 : decide (400 < (s.size : Int)) = false := by simp; omega
      clear hbig
      go_upto_region 14 with (fail)
      by_cases k1 : kd = 1
      · subst k1
        go_wp2_with fail
        refine (send_kp w _ b sb size st S dd s hI1 ok h2 (by omega)).mono ?_
        rintro e w5 ⟨rfl, hI5, o5⟩
        have hA5 := hA.keep o5
        clear a0 a1 a2 a3
        obtain ⟨a0, a1, a2, a3, -, -⟩ := hA5.cell
        dsimp only at a0 a1 a2 a3
        obtain ⟨ok', ht'⟩ := ok.send dd s
        by_cases he : sendE dd s = 0
        · obtain ⟨t, rfl, ht⟩ := send_end he
          rw [if_pos he] at ht'
          have HO := hid ok'
          have HS : Hid (Sub (sendSt size st (t : Int) s) (upd S t (S t ++ [s]))) := hsub.send ht he
          have HT := hid ht'
          have HE := hid hsum
          have HU := hid (sum_upd S ht (S t ++ [s]))
          rw [he]
          obtain ⟨bs, aos, caps, aom, capm, hcab, hsen, hap⟩ := hI5.ex
          have g1 := hsen.cell ht
          have i0 : (0 : Int) ≤ (t : Int) := by omega
          have i1 : (t : Int) < 2 := by omega
          have hxb : xb < w5.heap.size := (Array.getElem?_eq_some_iff.1 hA5).1
          have hsb := hsen.lt
          have hst : (S t).length ≤ 150 := by
            have := one_le S ht
            omega
          have x1 : ∀ o, (w5.alloc o).cell? ⟨xb, 1, none⟩ = some (.int .i64 (t : Int)) := fun o => (World.cell?_alloc_past o xb 1 hxb).trans a1
          have x3 : ∀ o, (w5.alloc o).cell? ⟨xb, 3, none⟩ = some (.string s) := fun o => (World.cell?_alloc_past o xb 3 hxb).trans a3
          have x4 : ∀ o, (w5.alloc o).cell? ⟨sb, t, none⟩ = some (.slice (aom t) (S t).length (capm t)) := fun o => (World.cell?_alloc_past o sb t hsb).trans g1
          have hold := hI5.old.size
          have HR := hid (hsen.row t ht)
          have HF : Hid (∀ w6 W : World, W.grownBy w6 (Value.ownBlock (.slice (aom t) (S t).length (capm t))) → W.heap = (w5.alloc (.cells #[.string s] 9)).heap → w6.cell? ⟨sb, t, none⟩ = some (.slice (aom t) (S t).length (capm t)) ∧ w6.frozen? ⟨sb, t, none⟩ = false ∧ w6.cell? ⟨xb, 1, none⟩ = some (.int .i64 (t : Int))) := by
            intro w6 W hg hW
            have e1 : w6.heap[sb]? = w5.heap[sb]? := by
              refine (hg.block sb (by rw [hW]; simp; omega) ?_).trans (by rw [hW]; exact Below.heap_alloc _ _ _ hsb)
              intro e
              obtain ⟨a, ha, e2⟩ := own_block e.symm
              exact hsen.not_sb ht ha e2.symm
            have e3 : w6.heap[xb]? = w5.heap[xb]? := by
              refine (hg.block xb (by rw [hW]; simp; omega) ?_).trans (by rw [hW]; exact Below.heap_alloc _ _ _ hxb)
              intro e
              obtain ⟨a, ha, e2⟩ := own_block e.symm
              obtain ⟨_, cur, hcur⟩ := hsen.form ht ha
              rw [← e2] at hcur
              have := hA5.symm.trans hcur
              simp at this
            exact ⟨(World.cell?_of_block (a := ⟨sb, t, none⟩) e1).trans g1, (World.frozen?_of_block (a := ⟨sb, t, none⟩) e1).trans (hsen.frozen t), (World.cell?_of_block (a := ⟨xb, 1, none⟩) e3).trans a1⟩
          have HK : Hid (∀ (w6 W : World) ao6 cap6, w6.ownsRow w.heap.size 9 1 (.slice ao6 ((S t).length + 1) cap6) ((S t).length + 1) (strs (S t) ++ [.string s]) → W.grownBy w6 (Value.ownBlock (.slice (aom t) (S t).length (capm t))) → (Value.ownBlock (.slice ao6 ((S t).length + 1) cap6) = Value.ownBlock (.slice (aom t) (S t).length (capm t)) ∨ Value.ownBlock (.slice ao6 ((S t).length + 1) cap6) = some W.heap.size) → W.heap = (w5.alloc (.cells #[.string s] 9)).heap → W.os = w5.os → W.tape = w5.tape → W.output = w5.output →
              Kp w (w6.setCell ⟨sb, t, none⟩ (.slice ao6 ((S t).length + 1) cap6)) b sb size (sendSt size st (t : Int) s) (upd S t (S t ++ [s]))) := by
            intro w6 W ao6 cap6 hown hg hat hW ho htp hop
            have hB : Below w5.heap.size w5 W := ⟨ho, htp, hop, by rw [hW]; simp, fun k hk => by rw [hW]; exact Below.heap_alloc _ _ _ hk⟩
            exact kp_more (hI5.old.trans (hB.mono hI5.old.size)) (hcab.old hB) (hsen.old hB) hap ht hown (by simp) (by rw [strs_snoc]) hg hat
          clear hI5 hcab hsen hap he ht' hsum ok'
          go_upto_region 18 with (fail)
          go_region_law (first
            | (refine step_append_near _ rfl (.tmp 65) (.tmp 68) 29 rfl w.heap.size 9 y0 (.string ⟨#[]⟩) 1 16 Try.underlying29 hi hz0 hz1 hz2 rfl (by decide) (.slice (aom t) (S t).length (capm t)) (S t).length (strs (S t)) (by simp [Act.eval, Act.put]) (by exact row_heap rfl (HR.out.alloc (.cells #[.string s] 9))) ⟨w5.heap.size, 0, none⟩ 1 1 [.string s] (by simp [Act.eval, Act.put]) rfl (by exact cell_one_new w5 (.string s) 9) (by simp [Value.oneCell']) (by unfold maxLen; omega) (by omega) (by simp; omega) ((S t).length + 1) rfl (strs (S t) ++ [.string s]) rfl ?_; intro ao6 cap6 w6 hown6 hg6 hat6; obtain ⟨c6, f6, x6⟩ := HF.out w6 _ hg6 rfl; have hK6 := HK.out w6 _ ao6 cap6 hown6 hg6 hat6 rfl rfl rfl rfl))
          all_goals go_wp2_with fail
          all_goals go_roundg (149 - k)
          all_goals first
            | omega
            | exact ⟨k + 1, out, _, _, by omega, by go_num, by go_num, HO.out, HS.out, by have q1 := HE.out; have q2 := HT.out; have q3 := HU.out; simp only [List.length_append, List.length_singleton] at q3; omega, by have q3 := HU.out; simp only [List.length_append, List.length_singleton] at q3; omega, hK6⟩
        · rw [if_neg he] at ht'
          have hne : (sendE dd s == 0) = false := by simpa using he
          have hs' : Sub (sendSt size st dd s) S := by rw [sendSt, if_neg he]; exact hsub
          go_wp2_with fail
          go_roundg (149 - k)
          case measure => omega
          case rel => exact ⟨k + 1, out, _, S, by omega, by go_num, by go_num, ok', hs', by omega, by omega, hI5⟩
      by_cases k2 : kd = 2
      · subst k2
        go_wp2_with fail
        refine (take_kp w _ b sb size st S dd ii hI1 ok h2).mono ?_
        rintro e w5 ⟨rfl, hI5, o5⟩
        have hA5 := hA.keep o5
        clear a0 a1 a2 a3
        obtain ⟨a0, a1, a2, a3, -, -⟩ := hA5.cell
        dsimp only at a0 a1 a2 a3
        obtain ⟨ok', ht'⟩ := ok.take dd ii
        have hs' := hsub.take dd ii
        by_cases hi : inB (flyL st.L dd).length ii = true
        · rw [hi]
          rw [if_pos hi] at ht'
          obtain ⟨t, rfl, ht, hmem⟩ := hsub.out hi
          obtain ⟨bs, aos, caps, aom, capm, hcab, hsen, hap⟩ := hI5.ex
          have g1 := hsen.cell ht
          have i0 : (0 : Int) ≤ (t : Int) := by omega
          have i1 : (t : Int) < 2 := by omega
          have HR := hid (hsen.row t ht)
          have Hmem : Hid (∃ q, q < (S t).length ∧ (S t)[q]?.getD ⟨#[]⟩ = atS (flyL st.L (t : Int)) ii) := by
            obtain ⟨q, hq, e⟩ := List.mem_iff_getElem.1 hmem
            exact ⟨q, hq, by rw [List.getElem?_eq_getElem hq]; exact e⟩
          have HO := hid ok'
          have HS := hid (hs')
          have HE := hid hsum
          have HT := hid ht'
          clear hmem hcab hap hsen hsum ht' ok' hs'
          generalize atS (flyL st.L (t : Int)) ii = y at Hmem ⊢
          generalize hN : (S t).length = N at g1 Hmem HR
          have hN64 : N ≤ 150 := by
            have : N ≤ (S 0).length + (S 1).length := by
              rw [← hN]
              exact one_le S ht
            omega
          have HN := hid hN
          clear hN
          go_wp2_with fail
          go_loopg [15, 16] N (fun gj s15 s16 wx => ∃ (j : Nat) (d : Bool), gj + j = N ∧ s15 = .bool d ∧ s16 = .int .i64 j ∧ Hid (d = false → ∀ q, q < j → (S t)[q]?.getD ⟨#[]⟩ ≠ y) ∧ wx = w5)
          case atStart => exact ⟨0, false, by omega, rfl, rfl, fun _ q hq => by omega, rfl⟩
          case round =>
            obtain ⟨j, d, hj, rfl, rfl, hd, rfl⟩ := hrel
            by_cases hjN : j < N
            · have j0 : (0 : Int) ≤ (j : Int) := by omega
              have j1 : (j : Int) < (N : Int) := by omega
              cases d with
              | true =>
                go_wp2_with fail
                go_roundg (gk - 1)
                case measure => omega
                case rel => exact ⟨j + 1, true, by omega, rfl, by go_num, fun h => (by cases h), rfl⟩
              | false =>
                obtain ⟨g, hg, hcj⟩ := srow_cell (l := S t) (by rw [HN.out]; exact HR.out) j (by rw [HN.out]; exact hjN)
                rw [hg] at g1
                obtain ⟨z, HZ⟩ : ∃ z, Hid ((S t)[j]?.getD ⟨#[]⟩ = z) := ⟨_, rfl⟩
                rw [HZ.out] at hcj
                by_cases hz : z = y
                · subst hz
                  go_wp2_with fail
                  go_roundg (gk - 1)
                  case measure => omega
                  case rel => exact ⟨j + 1, true, by omega, rfl, by go_num, fun h => (by cases h), rfl⟩
                · have hzb := bytes_ne hz
                  go_wp2_with fail
                  go_roundg (gk - 1)
                  case measure => omega
                  case rel =>
                    refine ⟨j + 1, false, by omega, rfl, by go_num, fun _ q hq => ?_, rfl⟩
                    by_cases e : q = j
                    · subst e; rw [HZ.out]; exact hz
                    · exact hd.out (by first | rfl | trivial) q (by omega)
            · have e : j = N := by omega
              subst e
              obtain rfl : d = true := by
                cases d with
                | true => rfl
                | false =>
                  obtain ⟨q, hq, e⟩ := Hmem.out
                  exact absurd e (hd.out (by first | rfl | trivial) q hq)
              go_wp2_with fail
              go_roundg (149 - k)
              case measure => omega
              case rel => exact ⟨k + 1, out + 1, takeSt st (t : Int) ii, S, by omega, by go_num, by go_num, HO.out, HS.out, by have q1 := HE.out; have q2 := HT.out; omega, by omega, hI5⟩
        · have hi' : inB (flyL st.L dd).length ii = false := by simpa using hi
          rw [if_neg hi] at ht'
          rw [hi']
          go_wp2_with fail
          go_roundg (149 - k)
          case measure => omega
          case rel => exact ⟨k + 1, out, _, S, by omega, by go_num, by go_num, ok', hs', by omega, by omega, hI5⟩
      by_cases k3 : kd = 3
      · subst k3
        go_wp2_with fail
        refine (copy_kp w _ b sb size st S dd ii hI1 ok h2).mono ?_
        rintro e w5 ⟨rfl, hI5, o5⟩
        have hA5 := hA.keep o5
        clear a0 a1 a2 a3
        obtain ⟨a0, a1, a2, a3, -, -⟩ := hA5.cell
        dsimp only at a0 a1 a2 a3
        by_cases hi : inB (flyL st.L dd).length ii = true
        · rw [hi]
          obtain ⟨t, rfl, ht, hmem⟩ := hsub.out hi
          obtain ⟨bs, aos, caps, aom, capm, hcab, hsen, hap⟩ := hI5.ex
          have g1 := hsen.cell ht
          have i0 : (0 : Int) ≤ (t : Int) := by omega
          have i1 : (t : Int) < 2 := by omega
          have HR := hid (hsen.row t ht)
          have Hmem : Hid (∃ q, q < (S t).length ∧ (S t)[q]?.getD ⟨#[]⟩ = atS (flyL st.L (t : Int)) ii) := by
            obtain ⟨q, hq, e⟩ := List.mem_iff_getElem.1 hmem
            exact ⟨q, hq, by rw [List.getElem?_eq_getElem hq]; exact e⟩
          have HO := hid ok
          have HS := hid (hsub)
          have HE := hid hsum
          clear hmem hcab hap hsen hsum
          generalize atS (flyL st.L (t : Int)) ii = y at Hmem ⊢
          generalize hN : (S t).length = N at g1 Hmem HR
          have hN64 : N ≤ 150 := by
            have : N ≤ (S 0).length + (S 1).length := by
              rw [← hN]
              exact one_le S ht
            omega
          have HN := hid hN
          clear hN
          go_wp2_with fail
          go_loopg [15, 16] N (fun gj s15 s16 wx => ∃ (j : Nat) (d : Bool), gj + j = N ∧ s15 = .bool d ∧ s16 = .int .i64 j ∧ Hid (d = false → ∀ q, q < j → (S t)[q]?.getD ⟨#[]⟩ ≠ y) ∧ wx = w5)
          case atStart => exact ⟨0, false, by omega, rfl, rfl, fun _ q hq => by omega, rfl⟩
          case round =>
            obtain ⟨j, d, hj, rfl, rfl, hd, rfl⟩ := hrel
            by_cases hjN : j < N
            · have j0 : (0 : Int) ≤ (j : Int) := by omega
              have j1 : (j : Int) < (N : Int) := by omega
              cases d with
              | true =>
                go_wp2_with fail
                go_roundg (gk - 1)
                case measure => omega
                case rel => exact ⟨j + 1, true, by omega, rfl, by go_num, fun h => (by cases h), rfl⟩
              | false =>
                obtain ⟨g, hg, hcj⟩ := srow_cell (l := S t) (by rw [HN.out]; exact HR.out) j (by rw [HN.out]; exact hjN)
                rw [hg] at g1
                obtain ⟨z, HZ⟩ : ∃ z, Hid ((S t)[j]?.getD ⟨#[]⟩ = z) := ⟨_, rfl⟩
                rw [HZ.out] at hcj
                by_cases hz : z = y
                · subst hz
                  go_wp2_with fail
                  go_roundg (gk - 1)
                  case measure => omega
                  case rel => exact ⟨j + 1, true, by omega, rfl, by go_num, fun h => (by cases h), rfl⟩
                · have hzb := bytes_ne hz
                  go_wp2_with fail
                  go_roundg (gk - 1)
                  case measure => omega
                  case rel =>
                    refine ⟨j + 1, false, by omega, rfl, by go_num, fun _ q hq => ?_, rfl⟩
                    by_cases e : q = j
                    · subst e; rw [HZ.out]; exact hz
                    · exact hd.out (by first | rfl | trivial) q (by omega)
            · have e : j = N := by omega
              subst e
              obtain rfl : d = true := by
                cases d with
                | true => rfl
                | false =>
                  obtain ⟨q, hq, e⟩ := Hmem.out
                  exact absurd e (hd.out (by first | rfl | trivial) q hq)
              go_wp2_with fail
              go_roundg (149 - k)
              case measure => omega
              case rel => exact ⟨k + 1, out, st, S, by omega, by go_num, by go_num, HO.out, HS.out, by have q1 := HE.out; omega, by omega, hI5⟩
        · have hi' : inB (flyL st.L dd).length ii = false := by simpa using hi
          rw [hi']
          go_wp2_with fail
          go_roundg (149 - k)
          case measure => omega
          case rel => exact ⟨k + 1, out, st, S, by omega, by go_num, by go_num, ok, hsub, by omega, by omega, hI5⟩
      by_cases k4 : kd = 4
      · subst k4
        go_wp2_with fail
        refine (drop_kp w _ b sb size st S dd ii hI1 ok h2 (by omega)).mono ?_
        rintro e w5 ⟨rfl, hI5, o5⟩
        obtain ⟨ok', ht'⟩ := ok.drop dd ii
        have hs' := hsub.drop dd ii
        go_wp2_with fail
        go_roundg (149 - k)
        case measure => omega
        case rel => exact ⟨k + 1, out, _, S, by omega, by go_num, by go_num, ok', hs', by omega, by omega, hI5⟩
      by_cases k6 : kd = 6
      · subst k6
        go_wp2_with fail
        refine (cut_kp w _ b sb size st S hI1 ok h2 (by omega)).mono ?_
        rintro e w5 ⟨rfl, hI5, o5⟩
        obtain ⟨ok', ht'⟩ := ok.cut
        have hs' : Sub (cutSt st) S := Sub.cut
        go_wp2_with fail
        go_roundg (149 - k)
        case measure => omega
        case rel => exact ⟨k + 1, out, _, S, by omega, by go_num, by go_num, ok', hs', by omega, by omega, hI5⟩
      have e1 : (kd == 1) = false := by simpa using k1
      have e2 : (kd == 2) = false := by simpa using k2
      have e3 : (kd == 3) = false := by simpa using k3
      have e4 : (kd == 4) = false := by simpa using k4
      have e6 : (kd == 6) = false := by simpa using k6
      clear k1 k2 k3 k4 k6
      go_wp2_with fail
      go_roundg (149 - k)
      case measure => omega
      case rel => exact ⟨k + 1, out, st, S, by omega, by go_num, by go_num, ok, hsub, by omega, by omega, hI1⟩
    · have hend : decide (k < len) = false ∨ (decide (k < len) = true ∧ decide ((k : Int) < 150) = false) := by
        by_cases h : k < len
        · right; simp; omega
        · left; simp; omega
      obtain ⟨bs, aos, caps, aom, capm, hcab, hsen, hap⟩ := hI.ex
      have g0 := hsen.cell (t := 0) (by omega)
      have g1 := hsen.cell (t := 1) (by omega)
      have hl3 := hcab.cell2
      have HF0 : Hid (∀ L : Nat → List ByteArray, flyL L 0 = L 0) := fun L => fly_in L (t := 0) (by omega)
      have HF1 : Hid (∀ L : Nat → List ByteArray, flyL L 1 = L 1) := fun L => fly_in L (t := 1) (by omega)
      have hcd := hcab.drewN 1
      have hB := hI.old
      unfold total at hsum
      have u1 : IntKind.i64.wrap (((S 0).length : Int) + ((S 1).length : Int)) = ((S 0).length : Int) + ((S 1).length : Int) := IntWalk.i64_in _ (by omega)
      have u2 : IntKind.i64.wrap ((out : Int) + (st.lost : Int)) = (out : Int) + (st.lost : Int) := IntWalk.i64_in _ (by omega)
      have u3 : IntKind.i64.wrap ((out : Int) + (st.lost : Int) + ((st.L 0).length : Int)) = (out : Int) + (st.lost : Int) + ((st.L 0).length : Int) := IntWalk.i64_in _ (by omega)
      have u4 : IntKind.i64.wrap ((out : Int) + (st.lost : Int) + ((st.L 0).length : Int) + ((st.L 1).length : Int)) = (out : Int) + (st.lost : Int) + ((st.L 0).length : Int) + ((st.L 1).length : Int) := IntWalk.i64_in _ (by omega)
      have u5 : ((((S 0).length : Int) + ((S 1).length : Int)) == ((out : Int) + (st.lost : Int) + ((st.L 0).length : Int) + ((st.L 1).length : Int))) = true := by rw [beq_iff_eq]; omega
      rcases hend with e1 | ⟨e1, e2⟩
      all_goals
        go_upto_region 37 with (fail)
        go_region_held3 (fun W => W.cell? ⟨sb, 0, none⟩ = some (.slice (aom 0) (S 0).length (capm 0)) ∧ W.cell? ⟨sb, 1, none⟩ = some (.slice (aom 1) (S 1).length (capm 1)))
          (first | go_keep | exact ⟨g0, g1⟩)
          (first
            | (go_at_call 10; refine (lost_c b _ _ (by exact hl3)).mono ?_; rintro e w5 ⟨rfl, rfl⟩)
            | (go_at_call 9; refine (flying_c 0 _ _ size b bs aos caps _ hcd).mono ?_; rintro e w5 ⟨rfl, rfl⟩; rw [HF0.out])
            | (go_at_call 9; refine (flying_c 1 _ _ size b bs aos caps _ hcd).mono ?_; rintro e w5 ⟨rfl, rfl⟩; rw [HF1.out]))
        go_wp2_with fail
        go_ret
        exact ⟨rfl, hB.os, hB.tape, hB.output, hB.size, hB.block⟩

theorem keeps_w (size : Int) (ad : Option Addr) (len cap : Nat) (w : World) (hc : Acts w ad len) :
    Calls Try.prog 4 #[.int .i64 size, .slice ad len cap] w fun e w' => e = .returned (.bool true) ∧ Below w.heap.size w w' := by
  by_cases h : 1 ≤ size ∧ size ≤ 64
  · obtain ⟨n, rfl⟩ := Int.eq_ofNat_of_zero_le (show 0 ≤ size by omega)
    exact keeps_main n ad len cap w (by omega) (by omega) hc
  · exact keeps_wrong size ad len cap w h

end Go.Proofs.Ytfifoikphhjomaa.Cb
