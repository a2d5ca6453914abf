/- Which states may be (layer 12, game, as layer 13 takes it). -/
import Derived.Test.YthbncbdnpeglfaaFyMay
import Derived.Deep.DeepCutAuto
import Derived.Deep.RegionWith
namespace Go.Proofs.Ythbncbdnpeglfaa.Gm
open Go.RowKit Go.Proofs.Ythbncbdnpeglfaa.Fx Go.Proofs.Ythbncbdnpeglfaa.Tg
open Go.Proofs.Ythbncbdnpeglfaa.Ev (At)
open Go.Proofs.Ythbncbdnpeglfaa.Sh (In32 vec box insideB)
set_option linter.unusedVariables false

/-- the cells of all shots. -/
def shC (s : St) : List Value := buC s.s0 ++ buC s.s1 ++ buC s.s2 ++ buC s.s3 ++ buC s.s4 ++ buC s.s5

theorem shC_len (s : St) : (shC s).length = 36 := rfl

theorem index_sh (s : St) (k : Nat) (hk : k < 6) (w : World) : (Instr.index 31 (.agg (shC s).toArray) (.int .i64 k)).run Try.prog w = .ok (buV (shS s k)) w := by
  have a4 := Try.isAgg30
  have z4 := Try.sizeOf30
  have hu := Try.underlying31
  have hh : k = 0 ∨ k = 1 ∨ k = 2 ∨ k = 3 ∨ k = 4 ∨ k = 5 := by omega
  unfold shC
  rcases hh with rfl | rfl | rfl | rfl | rfl | rfl
  all_goals
    simp [Instr.index, run_underlying hu, asIntOf, part, a4, z4, shS, go_sem]

def freeB (x : Bu) : Bool := decide (x = zeroB) || flyB x

def numsB (s : St) : Bool := inB s.fr 0 1073741824 && (inB s.rd 0 1073741824 && inB s.lf 1 600)

/-- may a state be. -/
def rightS (s : St) : Bool := numsB s && ((playB s.p0 && playB s.p1) && (freeB s.s0 && freeB s.s1 && freeB s.s2 && freeB s.s3 && freeB s.s4 && freeB s.s5))

theorem rightS_yes {s : St} (h1 : numsB s = true) (h2 : ∀ j, j < 2 → playB (plS s j) = true) (h3 : ∀ j, j < 6 → freeB (shS s j) = true) : rightS s = true := by
  have a0 := h2 0 (by decide)
  have a1 := h2 1 (by decide)
  have b0 := h3 0 (by decide)
  have b1 := h3 1 (by decide)
  have b2 := h3 2 (by decide)
  have b3 := h3 3 (by decide)
  have b4 := h3 4 (by decide)
  have b5 := h3 5 (by decide)
  simp only [plS, shS, if_true] at a0 a1 b0 b1 b2 b3 b4 b5
  unfold rightS
  rw [h1, b0, b1, b2, b3, b4, b5]
  simp at a0 a1
  simp [a0, a1]

theorem rightS_num {s : St} (h : numsB s = false) : rightS s = false := by unfold rightS; rw [h]; rfl

theorem rightS_pl {s : St} {j : Nat} (hj : j < 2) (h : playB (plS s j) = false) : rightS s = false := by
  have hh : j = 0 ∨ j = 1 := by omega
  unfold rightS
  rcases hh with rfl | rfl
  · have : playB s.p0 = false := h
    rw [this]; simp
  · have : playB s.p1 = false := h
    rw [this]; simp

theorem rightS_sh {s : St} {j : Nat} (hj : j < 6) (h : freeB (shS s j) = false) : rightS s = false := by
  have hh : j = 0 ∨ j = 1 ∨ j = 2 ∨ j = 3 ∨ j = 4 ∨ j = 5 := by omega
  unfold rightS
  rcases hh with rfl | rfl | rfl | rfl | rfl | rfl <;> (simp only [shS] at h; rw [h]; simp)

def plsC (s : St) : List Value := plC s.p0 ++ plC s.p1

theorem stC_pl (s : St) : ∀ j v, (plsC s)[j]? = some v → ((stC s).toArray)[4 + j]? = some v := by
  intro j v hv
  have hj : j < 20 := (List.getElem?_eq_some_iff.1 hv).1
  have e : stC s = [.int .i64 s.fr, .int .u32 s.di, .int .i64 s.rd, .int .i64 s.lf] ++ (plsC s ++ shC s) := by
    unfold stC shC plsC
    simp only [List.append_assoc]
  rw [List.getElem?_toArray, e, List.getElem?_append_right (by show 4 ≤ 4 + j; omega), show 4 + j - [Value.int .i64 s.fr, .int .u32 s.di, .int .i64 s.rd, .int .i64 s.lf].length = j from by show 4 + j - 4 = j; omega, List.getElem?_append_left (by show j < 20; exact hj)]
  exact hv

theorem stC_sh0 (s : St) : ∀ j v, (shC s)[j]? = some v → ((stC s).toArray)[24 + j]? = some v := by
  intro j v hv
  have hj : j < 36 := (List.getElem?_eq_some_iff.1 hv).1
  have e : stC s = ([.int .i64 s.fr, .int .u32 s.di, .int .i64 s.rd, .int .i64 s.lf] ++ plC s.p0 ++ plC s.p1) ++ shC s := by
    unfold stC shC
    simp only [List.append_assoc]
  rw [List.getElem?_toArray, e, List.getElem?_append_right (by show 24 ≤ 24 + j; omega), show 24 + j - ([Value.int .i64 s.fr, .int .u32 s.di, .int .i64 s.rd, .int .i64 s.lf] ++ plC s.p0 ++ plC s.p1).length = j from by show 24 + j - 24 = j; omega]
  exact hv

theorem index_pl (s : St) (k : Nat) (hk : k < 2) (w : World) : (Instr.index 28 (.agg (plsC s).toArray) (.int .i64 k)).run Try.prog w = .ok (plV (plS s k)) w := by
  have a4 := Try.isAgg27
  have z4 := Try.sizeOf27
  have hu := Try.underlying28
  have hh : k = 0 ∨ k = 1 := by omega
  unfold plsC
  rcases hh with rfl | rfl
  all_goals
    simp [Instr.index, run_underlying hu, asIntOf, part, a4, z4, plS, go_sem]

theorem at_st {w : World} {b : Nat} {s : St} {T : TypeId} (h : At w b (stC s).toArray T) : w.cell? ⟨b, 0, none⟩ = some (.int .i64 s.fr) ∧ w.cell? ⟨b, 1, none⟩ = some (.int .u32 s.di) ∧ w.cell? ⟨b, 2, none⟩ = some (.int .i64 s.rd) ∧ w.cell? ⟨b, 3, none⟩ = some (.int .i64 s.lf) := by
  have hc := fun j => cell_of_row w b j _ _ _ h
  refine ⟨?_, ?_, ?_, ?_⟩ <;> (rw [hc]; rfl)

set_option maxRecDepth 100000 in
set_option maxHeartbeats 2000000 in
theorem right_c (s : St) (w : World) :
    Calls Try.prog 16 #[.agg (stC s).toArray] w fun e w' => e = .returned (.bool (rightS s)) ∧ Below w.heap.size w w' := by
  have HA := hid (At.new w (stC s).toArray 33)
  have HB := hid (Ev.bal (Ev.br w) (.cells (stC s).toArray 33))
  have HN : Hid (numsB s = (inB s.fr 0 1073741824 && (inB s.rd 0 1073741824 && inB s.lf 1 600))) := hid rfl
  generalize hC : stC s = cs at HA HB
  go_enter Try.func16, Try.ntmps16
  go_upto_region 1 with fail
  subst hC
  generalize World.alloc w _ = w0 at HA HB ⊢
  obtain ⟨c0, c1, c2, c3⟩ := at_st HA.out
  have hn : (inB s.fr 0 1073741824 = false ∨ (inB s.fr 0 1073741824 = true ∧ inB s.rd 0 1073741824 = false) ∨ (inB s.fr 0 1073741824 = true ∧ inB s.rd 0 1073741824 = true ∧ inB s.lf 1 600 = false)) ∨ (inB s.fr 0 1073741824 = true ∧ inB s.rd 0 1073741824 = true ∧ inB s.lf 1 600 = true) := by
    cases inB s.fr 0 1073741824 <;> cases inB s.rd 0 1073741824 <;> cases inB s.lf 1 600 <;> simp
  rcases hn with hn | ⟨n1, n2, n3⟩
  · have HS : Hid (rightS s = false) := hid (rightS_num (by rw [HN.out]; rcases hn with e | ⟨e, e'⟩ | ⟨e, e', e''⟩ <;> simp_all))
    clear HN
    rcases hn with n1 | ⟨n1, n2⟩ | ⟨n1, n2, n3⟩
    · go_wp2_with (go_at_call 29; ((with_reducible refine (within_c _ _ _ _).mono ?_); rintro e w' ⟨rfl, rfl⟩; rw [n1]))
      go_ret
      exact ⟨by rw [HS.out]; rfl, HB.out⟩
    · go_wp2_with (go_at_call 29; ((with_reducible refine (within_c _ _ _ _).mono ?_); rintro e w' ⟨rfl, rfl⟩; first | rw [n1] | rw [n2]))
      go_ret
      exact ⟨by rw [HS.out]; rfl, HB.out⟩
    · go_wp2_with (go_at_call 29; ((with_reducible refine (within_c _ _ _ _).mono ?_); rintro e w' ⟨rfl, rfl⟩; first | rw [n1] | rw [n2] | rw [n3]))
      go_ret
      exact ⟨by rw [HS.out]; rfl, HB.out⟩
  have HNT : Hid (numsB s = true) := hid (by rw [HN.out, n1, n2, n3]; rfl)
  clear HN
  go_wp2_with (first
    | (go_at_call 29; ((with_reducible refine (within_c _ _ _ _).mono ?_); rintro e w' ⟨rfl, rfl⟩; first | rw [n1] | rw [n2] | rw [n3]))
    | (refine wpList_load_at rfl 28 _ rfl w.heap.size 4 rfl 33 _ (plsC s) (0, 0) _ HA.out Try.underlying28 rfl (by kernel_rfl) (stC_pl s) ?_))
  have HIp := fun k hk w => index_pl s k hk w
  generalize (plsC s).toArray = PL at HIp ⊢
  clear n1 n2 n3 c0 c1 c2 c3
  go_loopw [25] (fun i wr => ∃ k : Nat, k ≤ 2 ∧ i = .int .i64 k ∧ Below w0.heap.size w0 wr ∧ Hid (∀ j, j < k → playB (plS s j) = true)) (fun i _ => 2 - (intOf i).toNat)
  case atStart => exact ⟨0, by decide, rfl, Ev.br _, hid (fun j hj => by omega)⟩
  case round =>
    obtain ⟨k, hk, rfl, hg, hr⟩ := hrel
    by_cases hlt : k < 2
    · have hk1 : (k : Int) < 2 := by omega
      have hk0 : (0 : Int) ≤ (k : Int) := by omega
      have HI := fun w => HIp k hlt w
      clear HIp
      cases hP : playB (plS s k)
      · have HS : Hid (rightS s = false) := hid (rightS_pl hlt hP)
        generalize plS s k = p at HI hP
        go_wp2_with (go_at_call 30; ((with_reducible refine (mayplay_c _ _).mono ?_); rintro e w' ⟨rfl, g'⟩; rw [hP]))
        go_ret
        exact ⟨by rw [HS.out]; rfl, Ev.bt HB.out (Ev.bt hg (Ev.bt (Ev.bal (Ev.br _) _) g'))⟩
      · have HR2 := hid (show ∀ j, j < k + 1 → playB (plS s j) = true from fun j hj => by
          rcases Nat.lt_or_eq_of_le (Nat.le_of_lt_succ hj) with e | e
          · exact hr.out j e
          · rw [e]; exact hP)
        generalize plS s k = p at HI hP
        go_wp2_with (go_at_call 30; ((with_reducible refine (mayplay_c _ _).mono ?_); rintro e w' ⟨rfl, g'⟩; rw [hP]))
        go_roundw
        case rel => exact ⟨k + 1, by omega, by go_num, Ev.bt hg (Ev.bt (Ev.bal (Ev.br _) _) g'), HR2⟩
        case measure => simp [intOf]; omega
    · have hk2 : k = 2 := by omega
      subst hk2
      have HA1 := hid (HA.out.below hg)
      have HB1 := hid (Ev.bt HB.out hg)
      have HRP := hr
      clear hr hg HIp
      go_wp2_with (refine wpList_load_at rfl 31 _ rfl w.heap.size 24 rfl 33 _ (shC s) (0, 0) _ HA1.out Try.underlying31 rfl (by kernel_rfl) (stC_sh0 s) ?_)
      have HIs := fun k hk w => index_sh s k hk w
      generalize (shC s).toArray = SH at HIs ⊢
      generalize wr = w1 at HA1 HB1 ⊢
      go_loopw [34] (fun i wr => ∃ k : Nat, k ≤ 6 ∧ i = .int .i64 k ∧ Below w1.heap.size w1 wr ∧ Hid (∀ j, j < k → freeB (shS s j) = true)) (fun i _ => 6 - (intOf i).toNat)
      case atStart => exact ⟨0, by decide, rfl, Ev.br _, hid (fun j hj => by omega)⟩
      case round =>
        obtain ⟨k, hk, rfl, hg, hr⟩ := hrel
        by_cases hlt : k < 6
        · have hk1 : (k : Int) < 6 := by omega
          have hk0 : (0 : Int) ≤ (k : Int) := by omega
          have HI := fun w => HIs k hlt w
          clear HIs
          have hF : Hid (freeB (shS s k) = (decide (shS s k = zeroB) || flyB (shS s k))) := hid rfl
          cases hz : decide (shS s k = zeroB)
          · cases hP : flyB (shS s k)
            · have HS : Hid (rightS s = false) := hid (rightS_sh hlt (by rw [hF.out, hz, hP]; rfl))
              generalize shS s k = x at HI hP hz
              clear hF
              go_wp2_with (first
                | (go_at_call 31; ((with_reducible refine (isfree_c _ _).mono ?_); rintro e w2 ⟨rfl, g2⟩; rw [hz]; obtain ⟨c0, c1, c2, c3, c4, c5⟩ := at_bu ((At.new wr (buA x) 30).below g2)))
                | (go_at_call 32; ((with_reducible refine (mayfly_c _ _).mono ?_); rintro e w3 ⟨rfl, g3⟩; rw [hP])))
              go_ret
              exact ⟨by rw [HS.out]; rfl, Ev.bt HB1.out (Ev.bt hg (Ev.bt (Ev.bt (Ev.bal (Ev.br _) _) g2) g3))⟩
            · have HR2 := hid (show ∀ j, j < k + 1 → freeB (shS s j) = true from fun j hj => by
                rcases Nat.lt_or_eq_of_le (Nat.le_of_lt_succ hj) with e | e
                · exact hr.out j e
                · rw [e, hF.out, hP]; simp)
              generalize shS s k = x at HI hP hz
              clear hF
              go_wp2_with (first
                | (go_at_call 31; ((with_reducible refine (isfree_c _ _).mono ?_); rintro e w2 ⟨rfl, g2⟩; rw [hz]; obtain ⟨c0, c1, c2, c3, c4, c5⟩ := at_bu ((At.new wr (buA x) 30).below g2)))
                | (go_at_call 32; ((with_reducible refine (mayfly_c _ _).mono ?_); rintro e w3 ⟨rfl, g3⟩; rw [hP])))
              go_roundw
              case rel => exact ⟨k + 1, by omega, by go_num, Ev.bt hg (Ev.bt (Ev.bt (Ev.bal (Ev.br _) _) g2) g3), HR2⟩
              case measure => simp [intOf]; omega
          · have HR2 := hid (show ∀ j, j < k + 1 → freeB (shS s j) = true from fun j hj => by
              rcases Nat.lt_or_eq_of_le (Nat.le_of_lt_succ hj) with e | e
              · exact hr.out j e
              · rw [e, hF.out, hz]; rfl)
            generalize shS s k = x at HI hz
            clear hF
            go_wp2_with (go_at_call 31; ((with_reducible refine (isfree_c _ _).mono ?_); rintro e w2 ⟨rfl, g2⟩; rw [hz]))
            go_roundw
            case rel => exact ⟨k + 1, by omega, by go_num, Ev.bt hg (Ev.bt (Ev.bal (Ev.br _) _) g2), HR2⟩
            case measure => simp [intOf]; omega
        · have hk6 : k = 6 := by omega
          subst hk6
          have HS : Hid (rightS s = true) := hid (rightS_yes HNT.out HRP.out hr.out)
          go_wp2_with fail
          go_ret
          exact ⟨by rw [HS.out]; rfl, Ev.bt HB1.out hg⟩

end Go.Proofs.Ythbncbdnpeglfaa.Gm
