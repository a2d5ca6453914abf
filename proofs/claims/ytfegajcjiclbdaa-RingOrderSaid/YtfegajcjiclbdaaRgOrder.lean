/- The law RingOrder answers true: first in is first out. -/
import Derived.Test.YtfegajcjiclbdaaRgOrd
import Derived.Deep.LoopGhost
import Derived.Deep.DeepCutAuto
namespace Go.Proofs.Ytfegajcjiclbdaa.Rg
open Go.RowKit
set_option linter.unusedVariables false

set_option maxRecDepth 100000 in
theorem order_wrong (size : Int) (ad ad' : Option Addr) (len cap len' cap' : Nat) (w : World) (h : size < 1 ∨ 40 < size) :
    Calls Try.prog 4 #[.int .i64 size, .slice ad len cap, .slice ad' len' cap'] w fun e w' => e = .returned (.bool true) ∧ Below w.heap.size w w' := by
  rcases h with h | h
  · have d3 : decide (size < 1) = true := by simpa using h
    go_enter Try.func4, Try.ntmps4
    go_wp2_with (go_at_call 7; ((with_reducible refine (awake_c _).mono ?_); rintro e w1 ⟨rfl, hB⟩))
    go_ret
    exact ⟨rfl, hB⟩
  · have d3 : decide (size < 1) = false := by simp; omega
    have d4 : decide (40 < size) = true := by simpa using h
    go_enter Try.func4, Try.ntmps4
    go_wp2_with (go_at_call 7; ((with_reducible refine (awake_c _).mono ?_); rintro e w1 ⟨rfl, hB⟩))
    go_ret
    exact ⟨rfl, hB⟩

theorem ord_new {w w1 w2 : World} {size : Nat} (hB1 : Below w.heap.size w w1) (hB2 : Below w1.heap.size w1 w2) (hr : Ring w2 w.heap.size 60 w1.heap.size size none 0 []) :
    Ord w ((w2.alloc (.cells #[] 3)).alloc (.cells #[] 3)) w1.heap.size size (.slice (some ⟨w2.heap.size, 0, none⟩) 0 0) (.slice (some ⟨w2.heap.size + 1, 0, none⟩) 0 0) [] [] [] := by
  have hB3 : Below w.heap.size w w2 := hB1.trans (hB2.mono hB1.size)
  have hlt := hr.lt
  have hz := hB3.size
  have r2 := World.ownsRow_made (base := w.heap.size) (e := 3) (size := 1) (w2.alloc (.cells #[] 3)) #[] 0 (by simp; omega) (by decide) rfl
  rw [World.size_alloc] at r2
  refine ⟨⟨none, 0, (hr.alloc _).alloc _, ?_⟩, (World.ownsRow_made w2 #[] 0 hB3.size (by decide) rfl).alloc _, r2, ?_, (hB3.alloc hB3.size _).alloc (by simp; omega) _⟩
  · rintro i (rfl | ⟨a, ha, _⟩)
    · simp [Value.ownBlock]; omega
    · cases ha
  · intro i hi
    simp [Value.ownBlock] at hi ⊢
    omega

set_option maxRecDepth 100000 in
set_option maxHeartbeats 2000000 in
theorem order_main (size : Nat) (ad ad' : Option Addr) (len cap len' cap' : Nat) (w : World) (h1 : 1 ≤ size) (h2 : size ≤ 40) (hc : NumsIn .i64 w ad len) (hp : NumsIn .u8 w ad' len') :
    Calls Try.prog 4 #[.int .i64 size, .slice ad len cap, .slice ad' len' cap'] w fun e w' => e = .returned (.bool true) ∧ Below w.heap.size w w' := by
  have d3 : decide ((size : Int) < 1) = false := by simp; omega
  have d4 : decide (40 < (size : Int)) = false := by simp; omega
  obtain ⟨i0, hi, hz0, hz1, hz2⟩ := info_parts info_int
  go_enter Try.func4, Try.ntmps4
  go_wp2_with fail
  refine (awake_c _).mono ?_
  rintro e w1 ⟨rfl, hB1⟩
  go_wp2_with fail
  refine (new_ring w.heap.size size (by omega) _ hB1.size).mono ?_
  rintro e w2 ⟨rfl, hr, hB2⟩
  go_wp2_with fail
  have hm0 := ord_new hB1 hB2 hr
  generalize (w2.alloc (.cells #[] 3)).alloc (.cells #[] 3) = w3 at hm0 ⊢
  generalize w1.heap.size = b at hm0 ⊢
  clear hr hB1 hB2 d3 d4
  go_loopg [9, 10, 11] 150 (fun gk s9 s10 i wr => ∃ (k : Nat) (s lin lout : List Int), gk + k = 150 ∧ i = .int .i64 k ∧ s.length ≤ size ∧ lin.length ≤ k ∧ lin = lout ++ s ∧ Ord w wr b size s9 s10 s lin lout)
  case atStart => exact ⟨0, [], [], [], rfl, rfl, by simp, by simp, rfl, hm0⟩
  case round =>
    obtain ⟨k, s, lin, lout, hk, rfl, hs, hlk, he, hI⟩ := hrel
    have HE := hid he
    clear he hm0
    by_cases hlt : k < len ∧ k < 150
    · obtain ⟨hlt, hk1⟩ := hlt
      obtain ⟨c, off, z, rfl, hcl, c0, -⟩ := hc k hlt
      replace c0 := (hI.old.cell (p := ⟨c, off + k, none⟩) hcl).trans c0
      have e1 : ((k : Int) < (150 : Int)) := by omega
      go_wp2_with fail
      refine (push_ord w _ b size _ _ s lin lout z hI (by omega) hs).mono ?_
      rintro e w4 ⟨rfl, hI4⟩
      have c4 := (hI4.old.cell (p := ⟨c, off + k, none⟩) hcl).trans ((hI.old.cell (p := ⟨c, off + k, none⟩) hcl).symm.trans c0)
      clear hI c0
      go_upto_if 46 with (fail)
      go_cut [9] (fun s9 wx => ∃ (s1 lin1 : List Int), s1.length ≤ size ∧ lin1.length ≤ k + 1 ∧ Hid (lin1 = lout ++ s1) ∧ Ord w wx b size s9 u10 s1 lin1 lout)
      case first =>
        by_cases hf : s.length < size
        · have p1 : pushE size s = 0 := if_pos hf
          have p2 : pushL size s z = s ++ [z] := if_pos hf
          have P2 := hid p2
          rw [p2] at hI4
          clear p2
          go_wp2_with (at_builtin; refine wpList_append_own_at _ rfl _ _ 29 rfl w.heap.size 3 i0 (.int .i64 0) 1 8 Try.underlying29 hi hz0 hz1 hz2 rfl (by decide) _ _ _ rfl (hI4.rin.alloc _) ⟨w4.heap.size, 0, none⟩ 1 1 [.int .i64 z] rfl rfl (cell_one_new _ _ _) (by simp [Value.oneCell']) (by unfold maxLen; omega) (by omega) (by have := hI4.old.size; simp; omega) ?_; intro v5 w5 hown5 hg5 _ hat5)
          go_meet
          refine ⟨s ++ [z], lin ++ [z], by simp; omega, by simp; omega, ?_, ?_⟩
          · show _ = _
            rw [HE.out]; simp
          · refine hI4.toIn (l' := lin ++ [z]) ?_ hg5 hat5
            rw [ints_snoc, List.length_append, List.length_singleton]; exact hown5
        · have p1 : (pushE size s == 0) = false := by simp [pushE, hf]
          have p2 : pushL size s z = s := if_neg hf
          rw [p2] at hI4
          clear p2
          go_wp2_with fail
          go_meet
          exact ⟨s, lin, hs, by omega, HE, hI4⟩
      case rest =>
        obtain ⟨s1, lin1, hs1, hl1, HE1, hI5⟩ := hcut
        go_wp2_with fail
        go_loopg [10, 12] 4 (fun gj s10 j wx => ∃ (i : Nat) (s2 lout2 : List Int), gj + i = 4 ∧ j = .int .i64 i ∧ s2.length ≤ size ∧ Hid (lin1 = lout2 ++ s2) ∧ Ord w wx b size u9 s10 s2 lin1 lout2)
        case atStart => exact ⟨0, s1, lout, rfl, rfl, hs1, HE1, hI5⟩
        case round =>
          obtain ⟨i, s2, lout2, hgi, rfl, hs2, HE2, hI6⟩ := hrel
          have hl2 : lin1.length = lout2.length + s2.length := by rw [HE2.out]; simp
          clear hI5 HE1 hI4 c4
          by_cases hpl : k < len'
          · obtain ⟨c', off', y, rfl, hcl', cy, wy⟩ := hp k hpl
            replace cy := (hI6.old.cell (p := ⟨c', off' + k, none⟩) hcl').trans cy
            obtain ⟨y0, y1⟩ := bounds_u8 wy
            have y2 : y ≤ 255 := by omega
            by_cases hj : (i : Int) < y % 4
            · have hi4 : i < 4 := by omega
              go_wp2_with fail
              refine (pop_ord w _ b size _ _ s2 lin1 lout2 hI6 (by omega)).mono ?_
              rintro e w7 ⟨rfl, hI7⟩
              cases s2 with
              | nil =>
                rw [show atI [] 0 = 0 from rfl, show atB [] 0 = false from rfl]
                replace hI7 : Ord w w7 b size u9 u10 [] lin1 lout2 := hI7
                go_wp2_with fail
                go_roundg (gk - 1)
                case measure => omega
                case rel => exact ⟨i + 1, [], lout2, by omega, by go_num, by simp, HE2, hI7⟩
              | cons x r =>
                rw [(pop_cons x r).1, (pop_cons x r).2.1]
                rw [(pop_cons x r).2.2] at hI7
                simp only [List.length_cons] at hl2 hs2
                go_wp2_with (at_builtin; refine wpList_append_own_at _ rfl _ _ 29 rfl w.heap.size 3 i0 (.int .i64 0) 1 8 Try.underlying29 hi hz0 hz1 hz2 rfl (by decide) _ _ _ rfl (hI7.rout.alloc _) ⟨w7.heap.size, 0, none⟩ 1 1 [.int .i64 x] rfl rfl (cell_one_new _ _ _) (by simp [Value.oneCell']) (by unfold maxLen; omega) (by omega) (by have := hI7.old.size; simp; omega) ?_; intro v8 w8 hown8 hg8 _ hat8)
                go_roundg (gk - 1)
                case measure => omega
                case rel =>
                  refine ⟨i + 1, r, lout2 ++ [x], by omega, by go_num, by omega, ?_, ?_⟩
                  · show _ = _
                    rw [HE2.out]; simp
                  · refine hI7.toOut (l' := lout2 ++ [x]) ?_ hg8 hat8
                    rw [ints_snoc, List.length_append, List.length_singleton]; exact hown8
            · go_wp2_with fail
              go_roundg (149 - k)
              case measure => omega
              case rel => exact ⟨k + 1, s2, lin1, lout2, by omega, by go_num, hs2, by omega, HE2.out, hI6⟩
          · have d5 : decide (k < len') = false := by rw [decide_eq_false_iff_not]; exact hpl
            go_wp2_with fail
            go_roundg (149 - k)
            case measure => omega
            case rel => exact ⟨k + 1, s2, lin1, lout2, by omega, by go_num, hs2, by omega, HE2.out, hI6⟩
    · have hend : decide (k < len) = false ∨ (decide (k < len) = true ∧ decide ((k : Int) < 150) = false) := by
        by_cases h : k < len
        · right; simp; omega
        · left; simp; omega
      have hll : lin.length = lout.length + s.length := by rw [HE.out]; simp
      rcases hend with e1 | ⟨e1, e2⟩
      all_goals
        go_wp2_with fail
        obtain ⟨aor, capr, hr, ha⟩ := hI.ring
        refine (list_c _ b size capr aor s _ hr (by omega)).mono ?_
        rintro e w7 ⟨aoL, capL, rfl, hL, hB7⟩
        have hI7 := hI.keep hB7
        go_wp2_with (at_builtin; refine wpList_append_rowg _ rfl (.tmp 83) (.tmp 85) 29 rfl w.heap.size wr.heap.size 3 i0 (.int .i64 0) 1 8 Try.underlying29 hi hz0 hz1 hz2 rfl (by decide) _ lout.length (ints lout) rfl hI7.rout aoL s.length capL (ints s) rfl hL (ints_one s) (by unfold maxLen; omega) (by omega) hI7.old.size ?_; intro v8 w8 hown8 hg8 hat8)
        have r8 : w8.ownsRow w.heap.size 3 1 u9 lin.length (ints lin) := hI7.rin.kept hg8 (by
          cases hq : u9.ownBlock with
          | none => exact .inl rfl
          | some i => exact .inr (fun e => hI7.ne i hq e.symm))
        have r9 : w8.ownsRow w.heap.size 3 1 v8 lin.length (ints lin) := by
          rw [HE.out, ints_append, List.length_append]; exact hown8
        have hB8 : Below w.heap.size w w8 := hI7.old.grown hg8 hI7.old.size (fun k e => (hI7.rout.lt k e).1)
        obtain ⟨ai, ci, hu⟩ := row_form r8
        obtain ⟨a8, c8, hv⟩ := row_form r9
        rw [hv] at r9
        rw [hu] at r8
        rw [hv, hu]
        refine (ints_c _ _ _ _ _ _ lin w8 r9 r8 (by omega)).mono ?_
        rintro e w9 ⟨rfl, q, rfl⟩
        clear hu hv
        go_wp2_with fail
        go_ret
        exact ⟨rfl, hB8.os, hB8.tape, hB8.output, hB8.size, hB8.block⟩

theorem order_w (size : Int) (ad ad' : Option Addr) (len cap len' cap' : Nat) (w : World) (hc : NumsIn .i64 w ad len) (hp : NumsIn .u8 w ad' len') :
    Calls Try.prog 4 #[.int .i64 size, .slice ad len cap, .slice ad' len' cap'] w fun e w' => e = .returned (.bool true) ∧ Below w.heap.size w w' := by
  by_cases h1 : size < 1 ∨ 40 < size
  · exact order_wrong size ad ad' len cap len' cap' w h1
  · obtain ⟨k, rfl⟩ := Int.eq_ofNat_of_zero_le (show 0 ≤ size by omega)
    exact order_main k ad ad' len cap len' cap' w (by omega) (by omega) hc hp

end Go.Proofs.Ytfegajcjiclbdaa.Rg
