/- The law RingWindows: its loop. -/
import Derived.Test.YtlfhffljepganaaRgStep
import Derived.Test.YtlfhffljepganaaRgActsB
import Derived.Test.YtlfhffljepganaaRgInts
import Derived.Deep.QuietTactic
import Derived.BigQuiet
import Derived.Deep.RegionHeld3
import Derived.Deep.RegionWith
import Derived.Deep.DrawnRows
import Derived.Deep.LoopGhost
import Derived.Deep.DeepCutAuto
namespace Go.Proofs.Ytlfhffljepganaa.Rg
open Go.RowKit
set_option linter.unusedVariables false
attribute [local go_sem ↓] Go.wp_at_zero Go.wp_at_succ

def ActW (w : World) (xb : Nat) (kd n x : Int) : Prop := w.heap[xb]? = some (.cells #[.int .i64 kd, .int .i64 n, .int .i64 x] 33 (0, 0))
theorem ActW.keep {w w' : World} {xb : Nat} {kd n x : Int} (h : ActW w xb kd n x) (o : OthersW w w') : ActW w' xb kd n x := o xb _ _ _ (by decide) (by decide) (by decide) (by decide) h
theorem ActW.c0 {w : World} {xb : Nat} {kd n x : Int} (h : ActW w xb kd n x) : w.cell? ⟨xb, 0, none⟩ = some (.int .i64 kd) := by rw [cell_of_row w xb 0 _ _ _ h]; rfl
theorem ActW.c1 {w : World} {xb : Nat} {kd n x : Int} (h : ActW w xb kd n x) : w.cell? ⟨xb, 1, none⟩ = some (.int .i64 n) := by rw [cell_of_row w xb 1 _ _ _ h]; rfl
theorem ActW.c2 {w : World} {xb : Nat} {kd n x : Int} (h : ActW w xb kd n x) : w.cell? ⟨xb, 2, none⟩ = some (.int .i64 x) := by rw [cell_of_row w xb 2 _ _ _ h]; rfl
theorem ActW.new (w : World) (kd n x : Int) : ActW (w.alloc (.cells #[.int .i64 kd, .int .i64 n, .int .i64 x] 33)) w.heap.size kd n x := heap_alloc_new w _

theorem wrmove (w₀ w : World) (b m size : Nat) (f : Int) (l : List (Int × Int)) (f' : Int) (k : List (Int × Int)) (i : Int) (h : WBoth w₀ w b m size f l f' k) (hg : Good size f' k) (hs : size ≤ 4096) :
    Calls Try.prog 22 #[.pointer (some ⟨m, 0, none⟩), .int .i64 i, .int .i64 1073741825] w fun e w' => e = .returned (.int .i64 (lo k i)) ∧ WBoth w₀ w' b m size f l f' (k.drop (lo k i)) ∧ OthersW w w' := by
  have x := wrkeep w₀ w b m size f l f' k i 1073741825 h hg hs
  have hlo := lo_le k i
  rw [hg.keepMove, List.length_drop, show (k.length : Int) - ((k.length - lo k i : Nat) : Int) = (lo k i : Int) by omega] at x
  exact x

theorem wrcut (w₀ w : World) (b m size : Nat) (f : Int) (l : List (Int × Int)) (f' : Int) (k : List (Int × Int)) (i : Int) (h : WBoth w₀ w b m size f l f' k) (hg : Good size f' k) (hs : size ≤ 4096) :
    Calls Try.prog 22 #[.pointer (some ⟨m, 0, none⟩), .int .i64 0, .int .i64 i] w fun e w' => e = .returned (.int .i64 ((k.length : Int) - (lo k i : Int))) ∧ WBoth w₀ w' b m size f l f' (k.take (lo k i)) ∧ OthersW w w' := by
  have x := wrkeep w₀ w b m size f l f' k 0 i h hg hs
  have hlo := lo_le k i
  rw [hg.keepCut, List.length_take, show ((min (lo k i) k.length : Nat) : Int) = (lo k i : Int) by omega] at x
  exact x

theorem take_fst (l : List (Int × Int)) (k : Nat) (p : Int × Int) (hp : l[k]? = some p) : (l.map Prod.fst).take (k + 1) = (l.map Prod.fst).take k ++ [p.1] := by
  have hk : k < l.length := (List.getElem?_eq_some_iff.1 hp).1
  rw [List.take_succ_eq_append_getElem (by simpa using hk), List.getElem_map, (List.getElem?_eq_some_iff.1 hp).2]

set_option maxRecDepth 100000 in
set_option maxHeartbeats 8000000 in
theorem windows_main (size : Nat) (first ask : Int) (ad : Option Addr) (len cap : Nat) (w : World) (h1 : 1 ≤ size) (h2 : size ≤ 40) (hf : 0 ≤ first ∧ first ≤ 1073741824) (hc : ActsB w ad len) :
    Calls Try.prog 5 #[.int .i64 size, .int .i64 first, .slice ad len cap, .int .i64 ask] w fun e w' => e = .returned (.bool true) ∧ Below w.heap.size w w' := by
  have d1 : decide (40 < (size : Int)) = false := by simp; omega
  have d3 : decide ((size : Int) < 1) = false := by simp; omega
  have d4 : decide (4096 < (size : Int)) = false := by simp; omega
  have d5 : decide (first < 0) = false := by simp; omega
  have d6 : decide (1073741824 < first) = false := by simp; omega
  go_enter Try.func5, Try.ntmps5
  go_wp2_with fail
  refine (awake_c _).mono ?_
  rintro e w1 ⟨rfl, hB1⟩
  go_wp2_with fail
  refine (open_c size first w.heap.size (by omega) hf _ hB1.size).mono ?_
  rintro e w2 ⟨rfl, hr, hB2⟩
  go_wp2_with fail
  have hm0 : WBoth w (w2.alloc (.cells #[.int .i64 size, .int .i64 first, .slice none 0 0] 51)) w1.heap.size w2.heap.size size first [] first [] := wboth_new hB1 hB2 hr
  generalize w2.alloc (.cells #[.int .i64 size, .int .i64 first, .slice none 0 0] 51) = w3 at hm0 ⊢
  generalize w1.heap.size = b at hm0 ⊢
  generalize w2.heap.size = m at hm0 ⊢
  clear hr hB1 hB2 d1 d3 d4 d5 d6
  have hg0 : Good size first [] := Good.nil size first hf.1
  go_loopg [12] 150 (fun gk i wr => ∃ (k : Nat) (f : Int) (l : List (Int × Int)), gk + k = 150 ∧ i = .int .i64 k ∧ Good size f l ∧ WBoth w wr b m size f l f l)
  case atStart => exact ⟨0, first, [], rfl, rfl, hg0, hm0⟩
  case round =>
    obtain ⟨k, f, l, hk, rfl, hg, hI⟩ := hrel
    by_cases hlt : k < len ∧ k < 150
    · obtain ⟨hlt, hk1⟩ := hlt
      obtain ⟨c, off, kd, n, x, rfl, hcl, c0, c1, c2, b0, b1, b2⟩ := hc k hlt
      replace c0 := (hI.old.cell (p := ⟨c, off + k * 3, none⟩) hcl).trans c0
      replace c1 := (hI.old.cell (p := ⟨c, off + k * 3 + 1, none⟩) hcl).trans c1
      replace c2 := (hI.old.cell (p := ⟨c, off + k * 3 + 2, none⟩) hcl).trans c2
      have e1 : ((k : Int) < (150 : Int)) := by omega
      have hA := ActW.new wr kd n x
      have hI1 := hI.keep ((Below.refl _ wr).alloc (Nat.le_refl _) (.cells #[.int .i64 kd, .int .i64 n, .int .i64 x] 33))
      go_upto_region 13 with (fail)
      clear c0 c1 c2 hI
      generalize wr.alloc (.cells #[.int .i64 kd, .int .i64 n, .int .i64 x] 33) = w4 at hA hI1 ⊢
      generalize wr.heap.size = xb at hA ⊢
      go_cut [94] (fun s94 wx => s94 = .bool false ∧ ∃ l1 : List (Int × Int), Good size f l1 ∧ WBoth w wx b m size f l1 f l1 ∧ ActW wx xb kd n x)
      case first =>
        as_aux_lemma =>
          have a0 := hA.c0
          have a1 := hA.c1
          have a2 := hA.c2
          by_cases k1 : kd = 1
          · subst k1
            go_region_held3 (fun w' => w'.cell? ⟨xb, 0, none⟩ = some (.int .i64 1) ∧ w'.cell? ⟨xb, 1, none⟩ = some (.int .i64 n) ∧ w'.cell? ⟨xb, 2, none⟩ = some (.int .i64 x))
              (first | go_keep | exact ⟨hA6.c0, hA6.c1, hA6.c2⟩ | exact ⟨hA5.c0, hA5.c1, hA5.c2⟩)
              (first
                | (go_at_call 20; refine (wput w _ b m size f l f l n x (hI1.drewN 1) hg (by omega) b1.2).mono ?_; rintro e w5 ⟨rfl, hI5, o5⟩; have hA5 : ActW w5 xb 1 n x := ActW.keep hA o5)
                | (go_at_call 21; refine (wrput w _ b m size f (putW size f l n x) f l n x hI5 hg (by omega) b1.2).mono ?_; rintro e w6 ⟨rfl, hI6, o6⟩; have hA6 := hA5.keep o6))
            go_wp2_with fail
            go_meet
            exact ⟨rfl, putW size f l n x, putW_good hg n x, hI6, hA6⟩
          · have e2 : (kd == 1) = false := by simpa using k1
            go_quiet (fail)
            go_wp2_with fail
            go_meet
            exact ⟨rfl, l, hg, hI1.drewN _, hA⟩
      case rest =>
        obtain ⟨rfl, l1, hg1, hI2, hA2⟩ := hcut
        have a0 := hA2.c0
        have a1 := hA2.c1
        go_upto_if 97 with (fail)
        go_cut [14] (fun _ wx => ∃ (f2 : Int) (l2 : List (Int × Int)), Good size f2 l2 ∧ WBoth w wx b m size f2 l2 f2 l2 ∧ ActW wx xb kd n x)
        case first =>
          as_aux_lemma =>
            by_cases k2 : kd = 2
            · subst k2
              obtain ⟨ao1, cap1, ao2, cap2, p2⟩ := hI2.two
              have m1 : wc.cell? ⟨m, 1, none⟩ = some (.int .i64 f) := by simpa using p2.ref.cell 1
              by_cases n1 : f ≤ n ∧ n ≤ 1073741824
              · obtain ⟨n1, n2⟩ := n1
                have d1 : decide (f ≤ n) = true := by simpa using n1
                have d2 : decide (n ≤ 1073741824) = true := by simpa using n2
                go_upto_region 17 with (fail)
                go_quiet (fail)
                go_wp2_with fail
                refine (wrmove w _ b m size f l1 f l1 n (hI2.drewN _) hg1 (by omega)).mono ?_
                rintro e w5 ⟨rfl, hI5, o5⟩
                have hA5 : ActW w5 xb 2 n x := ActW.keep hA2 o5
                obtain ⟨ao3, cap3, ao4, cap4, p5⟩ := hI5.two
                have m5 : w5.cell? ⟨m, 1, none⟩ = some (.int .i64 f) := by simpa using p5.ref.cell 1
                have z5 := p5.ref.frozen 1
                have x5 := hA5.c1
                obtain ⟨hI6, o6⟩ := hI5.setFirst n
                have hA6 := hA5.keep o6
                have x6 := hA6.c1
                go_wp2_with fail
                refine (wmove w _ b m size f l1 n (l1.drop (lo l1 n)) n hI6 hg1 (by omega) ⟨n1, n2⟩).mono ?_
                rintro e w7 ⟨rfl, hI7, o7⟩
                have hA7 := hA6.keep o7
                go_wp2_with fail
                go_meet
                exact ⟨n, l1.drop (lo l1 n), hg1.moved n1, hI7, hA7⟩
              · have hn : n < f ∨ 1073741824 < n := by omega
                have hd : decide (f ≤ n) = false ∨ (decide (f ≤ n) = true ∧ decide (n ≤ 1073741824) = false) := by
                  by_cases q : f ≤ n
                  · right; simp; omega
                  · left; simp; omega
                clear n1
                rcases hd with d1 | ⟨d1, d2⟩
                all_goals
                  go_upto_region 17 with (fail)
                  go_quiet (fail)
                  go_wp2_with fail
                  refine (wmove_no w _ b m size f l1 f l1 n (hI2.drewN _) hn).mono ?_
                  rintro e w7 ⟨rfl, rfl⟩
                  go_wp2_with fail
                  go_meet
                  exact ⟨f, l1, hg1, hI2.drewN _, hA2⟩
            · have e2 : (kd == 2) = false := by simpa using k2
              go_wp2_with fail
              go_meet
              exact ⟨f, l1, hg1, hI2, hA2⟩
        case rest =>
          obtain ⟨f2, l2, hg2, hI3, hA3⟩ := hcut
          clear a0 a1 hI2 hA2
          have a0 := hA3.c0
          have a1 := hA3.c1
          go_upto_region 22 with (fail)
          go_cut [138] (fun s138 wx => s138 = .bool false ∧ ∃ l3 : List (Int × Int), Good size f2 l3 ∧ WBoth w wx b m size f2 l3 f2 l3 ∧ ActW wx xb kd n x)
          case first =>
            as_aux_lemma =>
              by_cases k3 : kd = 3
              · subst k3
                go_region_held3 (fun w' => w'.cell? ⟨xb, 0, none⟩ = some (.int .i64 3) ∧ w'.cell? ⟨xb, 1, none⟩ = some (.int .i64 n))
                  (first | go_keep | exact ⟨hA6.c0, hA6.c1⟩ | exact ⟨hA5.c0, hA5.c1⟩)
                  (first
                    | (go_at_call 24; refine (wcut w _ b m size f2 l2 f2 l2 n (hI3.drewN 1) hg2 (by omega)).mono ?_; rintro e w5 ⟨rfl, hI5, o5⟩; have hA5 : ActW w5 xb 3 n x := ActW.keep hA3 o5)
                    | (go_at_call 22; refine (wrcut w _ b m size f2 (l2.take (lo l2 n)) f2 l2 n hI5 hg2 (by omega)).mono ?_; rintro e w6 ⟨rfl, hI6, o6⟩; have hA6 := hA5.keep o6))
                go_wp2_with fail
                go_meet
                exact ⟨rfl, l2.take (lo l2 n), hg2.cut, hI6, hA6⟩
              · have e2 : (kd == 3) = false := by simpa using k3
                go_quiet (fail)
                go_wp2_with fail
                go_meet
                exact ⟨rfl, l2, hg2, hI3.drewN _, hA3⟩
          case rest =>
            obtain ⟨rfl, l3, hg3, hI4, hA4⟩ := hcut
            clear a0 a1 hI3 hA3
            go_wp2_with fail
            refine (wget w _ b m size f2 l3 f2 l3 ask hI4 hg3 (by omega)).mono ?_
            rintro e w5 ⟨rfl, hI5, o5⟩
            have hA5 := hA4.keep o5
            have a1 := hA5.c1
            go_wp2_with fail
            refine (wrget w _ b m size f2 l3 f2 l3 ask hI5 hg3 (by omega)).mono ?_
            rintro e w6 ⟨rfl, rfl⟩
            go_wp2_with fail
            refine (wget w _ b m size f2 l3 f2 l3 n hI5 hg3 (by omega)).mono ?_
            rintro e w7 ⟨rfl, hI7, o7⟩
            have hA7 := hA5.keep o7
            have a7 := hA7.c1
            go_wp2_with fail
            refine (wrget w _ b m size f2 l3 f2 l3 n hI7 hg3 (by omega)).mono ?_
            rintro e w8 ⟨rfl, rfl⟩
            obtain ⟨ao5, cap5, ao6, cap6, p7⟩ := hI7.two
            have c2 : w7.cell? ⟨m, 2, none⟩ = some (.slice ao6 l3.length cap6) := by simpa using p7.ref.cell 2
            have hmb := p7.ref.lt
            have hcell := hid (fun j p hp => win_cell p7.ref.row j p hp)
            obtain ⟨N, HN⟩ : ∃ N, Hid (l3.length = N) := ⟨_, rfl⟩
            have hN : N ≤ size := by rw [← HN.out]; exact hg3.len
            rw [HN.out] at c2
            obtain ⟨i0, hi, hz0, hz1, hz2⟩ := info_parts info_int
            have hm0 := World.ownsRow_made (e := 3) (size := 1) w7 #[] 0 (Nat.le_refl _) (by decide) rfl
            have hB0 : Below w7.heap.size w7 (w7.alloc (.cells #[] 3)) := (Below.refl _ w7).alloc (Nat.le_refl _) _
            clear hA4 hA5 a1 a7 hI4 hI5 p7
            generalize thingI l3 ask = t1
            generalize hasF l3 ask = t2
            generalize thingI l3 n = t3
            generalize hasF l3 n = t4
            go_wp2_with fail
            generalize w7.alloc (.cells #[] 3) = w8 at hm0 hB0 ⊢
            go_loopg [23, 24] N (fun gj v k wr => ∃ i : Nat, gj + i = N ∧ k = .int .i64 i ∧ wr.ownsRow w7.heap.size 3 1 v i (ints ((l3.map Prod.fst).take i)) ∧ Below w7.heap.size w7 wr)
            case atStart => exact ⟨0, by omega, rfl, hm0, hB0⟩
            case round =>
              obtain ⟨i, hgi, rfl, hrow, hB⟩ := hrel
              clear hm0 hB0
              have hc2 := (hB.cell (p := ⟨m, 2, none⟩) hmb).trans c2
              clear c2
              by_cases hin : i < N
              · obtain ⟨p, hp⟩ : ∃ p, l3[i]? = some p := ⟨l3[i]'(by rw [HN.out]; omega), List.getElem?_eq_getElem _⟩
                obtain ⟨g, rfl, hgl, e3, _⟩ := hcell.out i p hp
                replace e3 := (hB.cell (p := ⟨g, i * 2, none⟩) hgl).trans e3
                have d0 : decide (i < N) = true := by rw [decide_eq_true_iff]; exact hin
                have m3 : (i : Int) < (N : Int) := by omega
                have HT := hid (take_fst l3 i p hp)
                clear hp
                go_wp2_with (at_builtin; refine wpList_append_own_at _ rfl _ _ 29 rfl w7.heap.size 3 i0 (.int .i64 0) 1 8 Try.underlying29 hi hz0 hz1 hz2 rfl (by decide) _ _ _ rfl (hrow.alloc _) ⟨wr.heap.size, 0, none⟩ 1 1 [.int .i64 p.1] rfl rfl (cell_one_new _ _ _) (by simp [Value.oneCell']) (by unfold maxLen; omega) (by omega) (by have := hB.size; simp; omega) ?_; intro v1 w1 hown1 hgr1 _ hat1)
                go_roundg (gk - 1)
                case measure => omega
                case rel =>
                  refine ⟨i + 1, by omega, by go_num, ?_, (hB.alloc hB.size _).grown hgr1 (by have := hB.size; simp; omega) (fun i e => (hrow.lt i e).1)⟩
                  rw [HT.out, ints_snoc]
                  exact hown1
              · have d0 : decide (i < N) = false := by rw [decide_eq_false_iff_not]; exact hin
                obtain rfl : i = N := by omega
                have hall : (l3.map Prod.fst).take i = l3.map Prod.fst := List.take_of_length_le (by rw [List.length_map, HN.out]; omega)
                rw [hall] at hrow
                obtain ⟨a23, c23, rfl⟩ := row_form hrow
                have hI8 := hI7.keep hB
                have hA8 := hA7.keep (OthersW.old hB)
                obtain ⟨ao7, cap7, ao8, cap8, p8⟩ := hI8.two
                have m8 : wr.cell? ⟨m, 1, none⟩ = some (.int .i64 f2) := by simpa using p8.ref.cell 1
                have g1 : decide ((size : Int) < (i : Int)) = false := by simp; omega
                have g2 : decide (size < i) = false := by simp; omega
                go_upto_region 33 with (fail)
                clear hc2 hall d0 hcell
                go_cut [225] (fun s225 wx => s225 = .bool false ∧ WBoth w wx b m size f2 l3 f2 l3)
                case first =>
                  as_aux_lemma =>
                    refine wp_region_held_drew (S := fun W => W.cell? ⟨m, 1, none⟩ = some (.int .i64 f2)) (by kernel_rfl) m8 (fun hHeld => ?_)
                    (refine takeW (i := 0) (d := 186) (v := ?_) rfl rfl (by kernel_rfl) (by kernel_rfl) (by kernel_rfl) (fun _ _ _ h => h) (by rfl) ?_ (by assumption) ?_)
                    rotate_left
                    · (intro W hSW; (try dsimp only at hSW); go_simp; (try with_reducible rfl))
                    simp only [Act.put, List.setIfInBounds_toArray, List.set_cons_zero, List.set_cons_succ]
                    (refine takeW (i := 1) (d := 187) (v := ?_) rfl rfl (by kernel_rfl) (by kernel_rfl) (by kernel_rfl) (fun _ _ _ h => h) (by rfl) ?_ (by assumption) ?_)
                    rotate_left
                    · (intro W hSW; (try dsimp only at hSW); go_simp; (try with_reducible rfl))
                    simp only [Act.put, List.setIfInBounds_toArray, List.set_cons_zero, List.set_cons_succ]
                    (refine takeW (i := 2) (d := 188) (v := ?_) rfl rfl (by kernel_rfl) (by kernel_rfl) (by kernel_rfl) (fun _ _ _ h => h) (by rfl) ?_ (by assumption) ?_)
                    rotate_left
                    · (intro W hSW; (try dsimp only at hSW); go_simp; (try with_reducible rfl))
                    simp only [Act.put, List.setIfInBounds_toArray, List.set_cons_zero, List.set_cons_succ]
                    (refine takeW (i := 3) (d := 189) (v := ?_) rfl rfl (by kernel_rfl) (by kernel_rfl) (by kernel_rfl) (fun _ _ _ h => h) (by rfl) ?_ (by assumption) ?_)
                    rotate_left
                    · (intro W hSW; (try dsimp only at hSW); go_simp; (try with_reducible rfl))
                    simp only [Act.put, List.setIfInBounds_toArray, List.set_cons_zero, List.set_cons_succ]
                    (refine takeW (i := 4) (d := 190) (v := ?_) rfl rfl (by kernel_rfl) (by kernel_rfl) (by kernel_rfl) (fun _ _ _ h => h) (by rfl) ?_ (by assumption) ?_)
                    rotate_left
                    · (intro W hSW; (try dsimp only at hSW); go_simp; (try with_reducible rfl))
                    simp only [Act.put, List.setIfInBounds_toArray, List.set_cons_zero, List.set_cons_succ]
                    (refine takeW (i := 5) (d := 191) (v := ?_) rfl rfl (by kernel_rfl) (by kernel_rfl) (by kernel_rfl) (fun _ _ _ h => h) (by rfl) ?_ (by assumption) ?_)
                    rotate_left
                    · (intro W hSW; (try dsimp only at hSW); go_simp; (try with_reducible rfl))
                    simp only [Act.put, List.setIfInBounds_toArray, List.set_cons_zero, List.set_cons_succ]
                    (refine takeW (i := 6) (d := 192) (v := ?_) rfl rfl (by kernel_rfl) (by kernel_rfl) (by kernel_rfl) (fun _ _ _ h => h) (by rfl) ?_ (by assumption) ?_)
                    rotate_left
                    · (intro W hSW; (try dsimp only at hSW); go_simp; (try with_reducible rfl))
                    simp only [Act.put, List.setIfInBounds_toArray, List.set_cons_zero, List.set_cons_succ]
                    (refine takeW (i := 7) (d := 193) (v := ?_) rfl rfl (by kernel_rfl) (by kernel_rfl) (by kernel_rfl) (fun _ _ _ h => h) (by rfl) ?_ (by assumption) ?_)
                    rotate_left
                    · (intro W hSW; (try dsimp only at hSW); go_simp; (try with_reducible rfl))
                    simp only [Act.put, List.setIfInBounds_toArray, List.set_cons_zero, List.set_cons_succ]
                    (refine takeW (i := 8) (d := 194) (v := ?_) rfl rfl (by kernel_rfl) (by kernel_rfl) (by kernel_rfl) (fun _ _ _ h => h) (by rfl) ?_ (by assumption) ?_)
                    rotate_left
                    · (intro W hSW; (try dsimp only at hSW); go_simp; (try with_reducible rfl))
                    simp only [Act.put, List.setIfInBounds_toArray, List.set_cons_zero, List.set_cons_succ]
                    (refine takeW (i := 9) (d := 195) (v := ?_) rfl rfl (by kernel_rfl) (by kernel_rfl) (by kernel_rfl) (fun _ _ _ h => h) (by rfl) ?_ (by assumption) ?_)
                    rotate_left
                    · (intro W hSW; (try dsimp only at hSW); go_simp; (try with_reducible rfl))
                    simp only [Act.put, List.setIfInBounds_toArray, List.set_cons_zero, List.set_cons_succ]
                    (refine takeW (i := 10) (d := 196) (v := ?_) rfl rfl (by kernel_rfl) (by kernel_rfl) (by kernel_rfl) (fun _ _ _ h => h) (by rfl) ?_ (by assumption) ?_)
                    rotate_left
                    · (intro W hSW; (try dsimp only at hSW); go_simp; (try with_reducible rfl))
                    simp only [Act.put, List.setIfInBounds_toArray, List.set_cons_zero, List.set_cons_succ]
                    (refine takeW (i := 11) (d := 197) (v := ?_) rfl rfl (by kernel_rfl) (by kernel_rfl) (by kernel_rfl) (fun _ _ _ h => h) (by rfl) ?_ (by assumption) ?_)
                    rotate_left
                    · (intro W hSW; (try dsimp only at hSW); go_simp; (try with_reducible rfl))
                    simp only [Act.put, List.setIfInBounds_toArray, List.set_cons_zero, List.set_cons_succ]
                    (refine takeW (i := 12) (d := 198) (v := ?_) rfl rfl (by kernel_rfl) (by kernel_rfl) (by kernel_rfl) (fun _ _ _ h => h) (by rfl) ?_ (by assumption) ?_)
                    rotate_left
                    · (intro W hSW; (try dsimp only at hSW); go_simp; (try with_reducible rfl))
                    simp only [Act.put, List.setIfInBounds_toArray, List.set_cons_zero, List.set_cons_succ]
                    (refine takeW (i := 13) (d := 199) (v := ?_) rfl rfl (by kernel_rfl) (by kernel_rfl) (by kernel_rfl) (fun _ _ _ h => h) (by rfl) ?_ (by assumption) ?_)
                    rotate_left
                    · (intro W hSW; (try dsimp only at hSW); go_simp; (try with_reducible rfl))
                    simp only [Act.put, List.setIfInBounds_toArray, List.set_cons_zero, List.set_cons_succ]
                    (refine takeW (i := 14) (d := 200) (v := ?_) rfl rfl (by kernel_rfl) (by kernel_rfl) (by kernel_rfl) (fun _ _ _ h => h) (by rfl) ?_ (by assumption) ?_)
                    rotate_left
                    · (intro W hSW; (try dsimp only at hSW); go_simp; (try with_reducible rfl))
                    simp only [Act.put, List.setIfInBounds_toArray, List.set_cons_zero, List.set_cons_succ]
                    (refine takeW (i := 15) (d := 201) (v := ?_) rfl rfl (by kernel_rfl) (by kernel_rfl) (by kernel_rfl) (fun _ _ _ h => h) (by rfl) ?_ (by assumption) ?_)
                    rotate_left
                    · (intro W hSW; (try dsimp only at hSW); go_simp; (try with_reducible rfl))
                    simp only [Act.put, List.setIfInBounds_toArray, List.set_cons_zero, List.set_cons_succ]
                    (refine takeW (i := 16) (d := 202) (v := ?_) rfl rfl (by kernel_rfl) (by kernel_rfl) (by kernel_rfl) (fun _ _ _ h => h) (by rfl) ?_ (by assumption) ?_)
                    rotate_left
                    · (intro W hSW; (try dsimp only at hSW); go_simp; (try with_reducible rfl))
                    simp only [Act.put, List.setIfInBounds_toArray, List.set_cons_zero, List.set_cons_succ]
                    (refine takeW (i := 17) (d := 203) (v := ?_) rfl rfl (by kernel_rfl) (by kernel_rfl) (by kernel_rfl) (fun _ _ _ h => h) (by rfl) ?_ (by assumption) ?_)
                    rotate_left
                    · (intro W hSW; (try dsimp only at hSW); go_simp; (try with_reducible rfl))
                    simp only [Act.put, List.setIfInBounds_toArray, List.set_cons_zero, List.set_cons_succ]
                    (refine takeW (i := 18) (d := 204) (v := ?_) rfl rfl (by kernel_rfl) (by kernel_rfl) (by kernel_rfl) (fun _ _ _ h => h) (by rfl) ?_ (by assumption) ?_)
                    rotate_left
                    · (intro W hSW; (try dsimp only at hSW); go_simp; (try with_reducible rfl))
                    simp only [Act.put, List.setIfInBounds_toArray, List.set_cons_zero, List.set_cons_succ]
                    (refine takeW (i := 19) (d := 205) (v := ?_) rfl rfl (by kernel_rfl) (by kernel_rfl) (by kernel_rfl) (fun _ _ _ h => h) (by rfl) ?_ (by assumption) ?_)
                    rotate_left
                    · (intro W hSW; (try dsimp only at hSW); go_simp; (try with_reducible rfl))
                    simp only [Act.put, List.setIfInBounds_toArray, List.set_cons_zero, List.set_cons_succ]
                    (refine takeW (i := 21) (d := 207) (v := ?_) rfl rfl (by kernel_rfl) (by kernel_rfl) (by kernel_rfl) (fun _ _ _ h => h) (by rfl) ?_ (by assumption) ?_)
                    rotate_left
                    · (intro W hSW; (try dsimp only at hSW); go_simp; (try with_reducible rfl))
                    simp only [Act.put, List.setIfInBounds_toArray, List.set_cons_zero, List.set_cons_succ]
                    (refine takeW (i := 22) (d := 208) (v := ?_) rfl rfl (by kernel_rfl) (by kernel_rfl) (by kernel_rfl) (fun _ _ _ h => h) (by rfl) ?_ (by assumption) ?_)
                    rotate_left
                    · (intro W hSW; (try dsimp only at hSW); go_simp; (try with_reducible rfl))
                    simp only [Act.put, List.setIfInBounds_toArray, List.set_cons_zero, List.set_cons_succ]
                    (refine takeW (i := 23) (d := 209) (v := ?_) rfl rfl (by kernel_rfl) (by kernel_rfl) (by kernel_rfl) (fun _ _ _ h => h) (by rfl) ?_ (by assumption) ?_)
                    rotate_left
                    · (intro W hSW; (try dsimp only at hSW); go_simp; (try with_reducible rfl))
                    simp only [Act.put, List.setIfInBounds_toArray, List.set_cons_zero, List.set_cons_succ]
                    (refine takeW (i := 24) (d := 210) (v := ?_) rfl rfl (by kernel_rfl) (by kernel_rfl) (by kernel_rfl) (fun _ _ _ h => h) (by rfl) ?_ (by assumption) ?_)
                    rotate_left
                    · (intro W hSW; (try dsimp only at hSW); go_simp; (try with_reducible rfl))
                    simp only [Act.put, List.setIfInBounds_toArray, List.set_cons_zero, List.set_cons_succ]
                    refine wpAnyH_ready (rs := [20]) (by kernel_rfl) (by simp) ?_
                    refine AllReadyH.cons (i := 20) rfl (fun K hK => ?_) AllReadyH.nil
                    go_simp
                    refine (first_c _ b size cap7 f2 ao7 l3 _ (p8.win.drewN 1)).mono ?_
                    rintro e w9 ⟨rfl, rfl⟩
                    dsimp only
                    refine hK.out _ _ m8 (fun hHeld => ?_)
                    clear hK K
                    (try simp only [Act.put, List.setIfInBounds_toArray, List.set_cons_zero, List.set_cons_succ])
                    (refine takeW (i := 25) (d := 211) (v := ?_) rfl rfl (by kernel_rfl) (by kernel_rfl) (by kernel_rfl) (fun _ _ _ h => h) (by rfl) ?_ (by assumption) ?_)
                    rotate_left
                    · (intro W hSW; (try dsimp only at hSW); go_simp; (try with_reducible rfl))
                    simp only [Act.put, List.setIfInBounds_toArray, List.set_cons_zero, List.set_cons_succ]
                    (refine takeW (i := 26) (d := 212) (v := ?_) rfl rfl (by kernel_rfl) (by kernel_rfl) (by kernel_rfl) (fun _ _ _ h => h) (by rfl) ?_ (by assumption) ?_)
                    rotate_left
                    · (intro W hSW; (try dsimp only at hSW); go_simp; (try with_reducible rfl))
                    simp only [Act.put, List.setIfInBounds_toArray, List.set_cons_zero, List.set_cons_succ]
                    (refine takeW (i := 27) (d := 213) (v := ?_) rfl rfl (by kernel_rfl) (by kernel_rfl) (by kernel_rfl) (fun _ _ _ h => h) (by rfl) ?_ (by assumption) ?_)
                    rotate_left
                    · (intro W hSW; (try dsimp only at hSW); go_simp; (try with_reducible rfl))
                    simp only [Act.put, List.setIfInBounds_toArray, List.set_cons_zero, List.set_cons_succ]
                    (refine takeW (i := 28) (d := 214) (v := ?_) rfl rfl (by kernel_rfl) (by kernel_rfl) (by kernel_rfl) (fun _ _ _ h => h) (by rfl) ?_ (by assumption) ?_)
                    rotate_left
                    · (intro W hSW; (try dsimp only at hSW); go_simp; (try with_reducible rfl))
                    simp only [Act.put, List.setIfInBounds_toArray, List.set_cons_zero, List.set_cons_succ]
                    (refine takeW (i := 30) (d := 216) (v := ?_) rfl rfl (by kernel_rfl) (by kernel_rfl) (by kernel_rfl) (fun _ _ _ h => h) (by rfl) ?_ (by assumption) ?_)
                    rotate_left
                    · (intro W hSW; (try dsimp only at hSW); go_simp; (try with_reducible rfl))
                    simp only [Act.put, List.setIfInBounds_toArray, List.set_cons_zero, List.set_cons_succ]
                    refine wpAnyH_ready (rs := [29]) (by kernel_rfl) (by simp) ?_
                    refine AllReadyH.cons (i := 29) rfl (fun K hK => ?_) AllReadyH.nil
                    go_simp
                    refine (frames_w (hI8.drewN 1) (by rw [HN.out]; omega)).mono ?_
                    rintro e w10 ⟨aoL, capL, rfl, hL, hB10⟩
                    have hI10 := (hI8.drewN 1).keep hB10
                    obtain ⟨ao9, cap9, ao10, cap10, p10⟩ := hI10.two
                    have m10 : w10.cell? ⟨m, 1, none⟩ = some (.int .i64 f2) := by simpa using p10.ref.cell 1
                    rw [HN.out] at hL
                    rw [HN.out]
                    have hL2 : w10.ownsRow w7.heap.size 3 1 (.slice a23 i c23) i (ints (l3.map Prod.fst)) := (Keeps.ofOld hB10 (fun _ => False)).row (row_heap rfl hrow) (fun _ _ e => e)
                    have hx : Calls Try.prog 12 #[.slice aoL i capL, .slice a23 i c23] w10 fun e w' => e = .returned (.bool true) ∧ ∃ q, w' = w10.drewN q := by
                      have hq : (l3.map Prod.fst).length = i := by rw [List.length_map]; exact HN.out
                      have y := ints_c _ _ aoL a23 capL c23 (l3.map Prod.fst) w10 (by rw [hq]; exact hL) (by rw [hq]; exact hL2) (by rw [hq]; omega)
                      rw [hq] at y
                      exact y
                    have Hx := hid hx
                    clear hx
                    dsimp only
                    refine hK.out _ _ m10 (fun hHeld => ?_)
                    clear hK K
                    (try simp only [Act.put, List.setIfInBounds_toArray, List.set_cons_zero, List.set_cons_succ])
                    refine wpAnyH_ready (rs := [31]) (by kernel_rfl) (by simp) ?_
                    refine AllReadyH.cons (i := 31) rfl (fun K hK => ?_) AllReadyH.nil
                    go_simp
                    refine (Hx.out).mono ?_
                    rintro e w11 ⟨rfl, q11, rfl⟩
                    dsimp only
                    refine hK.out _ _ m10 (fun hHeld => ?_)
                    clear hK K
                    (try simp only [Act.put, List.setIfInBounds_toArray, List.set_cons_zero, List.set_cons_succ])
                    (refine takeW (i := 32) (d := 218) (v := ?_) rfl rfl (by kernel_rfl) (by kernel_rfl) (by kernel_rfl) (fun _ _ _ h => h) (by rfl) ?_ (by assumption) ?_)
                    rotate_left
                    · (intro W hSW; (try dsimp only at hSW); go_simp; (try with_reducible rfl))
                    simp only [Act.put, List.setIfInBounds_toArray, List.set_cons_zero, List.set_cons_succ]
                    (refine takeW (i := 33) (d := 219) (v := ?_) rfl rfl (by kernel_rfl) (by kernel_rfl) (by kernel_rfl) (fun _ _ _ h => h) (by rfl) ?_ (by assumption) ?_)
                    rotate_left
                    · (intro W hSW; (try dsimp only at hSW); go_simp; (try with_reducible rfl))
                    simp only [Act.put, List.setIfInBounds_toArray, List.set_cons_zero, List.set_cons_succ]
                    (refine takeW (i := 34) (d := 220) (v := ?_) rfl rfl (by kernel_rfl) (by kernel_rfl) (by kernel_rfl) (fun _ _ _ h => h) (by rfl) ?_ (by assumption) ?_)
                    rotate_left
                    · (intro W hSW; (try dsimp only at hSW); go_simp; (try with_reducible rfl))
                    simp only [Act.put, List.setIfInBounds_toArray, List.set_cons_zero, List.set_cons_succ]
                    (refine takeW (i := 35) (d := 221) (v := ?_) rfl rfl (by kernel_rfl) (by kernel_rfl) (by kernel_rfl) (fun _ _ _ h => h) (by rfl) ?_ (by assumption) ?_)
                    rotate_left
                    · (intro W hSW; (try dsimp only at hSW); go_simp; (try with_reducible rfl))
                    simp only [Act.put, List.setIfInBounds_toArray, List.set_cons_zero, List.set_cons_succ]
                    (refine takeW (i := 36) (d := 222) (v := ?_) rfl rfl (by kernel_rfl) (by kernel_rfl) (by kernel_rfl) (fun _ _ _ h => h) (by rfl) ?_ (by assumption) ?_)
                    rotate_left
                    · (intro W hSW; (try dsimp only at hSW); go_simp; (try with_reducible rfl))
                    simp only [Act.put, List.setIfInBounds_toArray, List.set_cons_zero, List.set_cons_succ]
                    (refine takeW (i := 37) (d := 223) (v := ?_) rfl rfl (by kernel_rfl) (by kernel_rfl) (by kernel_rfl) (fun _ _ _ h => h) (by rfl) ?_ (by assumption) ?_)
                    rotate_left
                    · (intro W hSW; (try dsimp only at hSW); go_simp; (try with_reducible rfl))
                    simp only [Act.put, List.setIfInBounds_toArray, List.set_cons_zero, List.set_cons_succ]
                    (refine takeW (i := 38) (d := 224) (v := ?_) rfl rfl (by kernel_rfl) (by kernel_rfl) (by kernel_rfl) (fun _ _ _ h => h) (by rfl) ?_ (by assumption) ?_)
                    rotate_left
                    · (intro W hSW; (try dsimp only at hSW); go_simp; (try with_reducible rfl))
                    simp only [Act.put, List.setIfInBounds_toArray, List.set_cons_zero, List.set_cons_succ]
                    (refine takeW (i := 39) (d := 225) (v := ?_) rfl rfl (by kernel_rfl) (by kernel_rfl) (by kernel_rfl) (fun _ _ _ h => h) (by rfl) ?_ (by assumption) ?_)
                    rotate_left
                    · (intro W hSW; (try dsimp only at hSW); go_simp; (try with_reducible rfl))
                    simp only [Act.put, List.setIfInBounds_toArray, List.set_cons_zero, List.set_cons_succ]
                    refine wpAnyH_done (by kernel_rfl) ?_ _
                    go_wp2_with fail
                    go_meet
                    exact ⟨rfl, hI10.drewN _⟩
                case rest =>
                  obtain ⟨rfl, hI11⟩ := hcut
                  go_wp2_with fail
                  go_roundg (149 - k)
                  case measure => omega
                  case rel => exact ⟨k + 1, f2, l3, by omega, by go_num, hg3, hI11⟩
    · have hend : decide (k < len) = false ∨ (decide (k < len) = true ∧ decide ((k : Int) < 150) = false) := by
        by_cases h : k < len
        · right; simp; omega
        · left; simp; omega
      rcases hend with e1 | ⟨e1, e2⟩
      · go_wp2_with fail
        go_ret
        exact ⟨rfl, hI.old⟩
      · go_wp2_with fail
        go_ret
        exact ⟨rfl, hI.old⟩

theorem windows_w (size first ask : Int) (ad : Option Addr) (len cap : Nat) (w : World) (hc : ActsB w ad len) :
    Calls Try.prog 5 #[.int .i64 size, .int .i64 first, .slice ad len cap, .int .i64 ask] w fun e w' => e = .returned (.bool true) ∧ Below w.heap.size w w' := by
  by_cases h1 : 40 < size ∧ size ≤ 4096
  · exact windows_big size first ask ad len cap w h1
  by_cases h2 : ¬ (1 ≤ size ∧ size ≤ 4096) ∨ first < 0 ∨ 1073741824 < first
  · exact windows_wrong size first ask ad len cap w h1 h2
  · obtain ⟨k, rfl⟩ := Int.eq_ofNat_of_zero_le (show 0 ≤ size by omega)
    exact windows_main k first ask ad len cap w (by omega) (by omega) (by omega) hc

end Go.Proofs.Ytlfhffljepganaa.Rg
