/- The chapter's example, and the walk of FreezePacks (layer 13, freeze). -/
import Derived.Test.YthbncbdnpeglfaaFzRp
import Derived.Test.YthbncbdnpeglfaaFzDi
namespace Go.Proofs.Ythbncbdnpeglfaa.Fz
open Go.RowKit
open Go.Proofs.Ythbncbdnpeglfaa.Ev (At)
open Go.Proofs.Ythbncbdnpeglfaa.Gm (hid Pl Bu St plC plA buC buA stC stV zeroP zeroB zeroS fresh0 fresh1 beginS plS setP shS setS rightS takeW wpList_load_at wpList_store_at wp_store_at at_row at_row_far below_row rright_c rstart_c eqS neqS)
open Go.Proofs.Ythbncbdnpeglfaa.Pk (numL)
set_option linter.unusedVariables false

/-- a list of strings in memory. -/
def Strs (w : World) (v : Value) (l : List (List UInt8)) : Prop := ∃ ao L cap, v = .slice ao L cap ∧ l.length = L ∧ L ≤ cap ∧ cap ≤ 9223372036854775807 ∧ (0 < l.length → ∃ b o, ao = some ⟨b, o, none⟩ ∧ b < w.heap.size ∧ ∀ j (h : j < l.length), w.cell? ⟨b, o + j, none⟩ = some (.string ⟨l[j].toArray⟩))
theorem strs_of {B : Nat} {v : Value} {l : List (List UInt8)} {W0 w : World} (h : Lib.OwnBuf B 9 v l.length (strsV l) W0 w) : Strs w v l := by
  obtain ⟨ho, _, _⟩ := h
  rcases ho.2 with ⟨rfl, h0⟩ | ⟨g, cap, cur, fz, rfl, _, hg, _, hn, hm, _⟩
  · exact ⟨none, 0, 0, rfl, h0, Nat.le_refl _, by decide, fun h => by omega⟩
  · have hc := ho.cells (g := g) rfl
    refine ⟨_, _, cap, rfl, rfl, hn, by unfold maxLen at hm; omega, fun _ => ⟨g, 0, rfl, (Array.getElem?_eq_some_iff.1 hg).1, fun j hj => ?_⟩⟩
    have := hc j (.string ⟨l[j].toArray⟩) (by simp [strsV, hj])
    rw [← this]
    congr 1
    unfold Addr.add
    split <;> simp_all
theorem ty_begin (n : Int) (h : 0 ≤ n ∧ n ≤ 4294967295) : Ty (beginS n) := by
  have hp0 : tpP fresh0 := by unfold tpP tpV R32 R64; decide
  have hp1 : tpP fresh1 := by unfold tpP tpV R32 R64; decide
  have hb : tpB zeroB := by unfold tpB tpV R32 R64; decide
  refine ⟨show R64 0 by unfold R64; decide, h, show R64 0 by unfold R64; decide, show R64 600 by unfold R64; decide, fun t => ?_, fun t => ?_⟩
  · unfold plS
    split
    · exact hp0
    · exact hp1
  · unfold shS
    split <;> exact hb
theorem ex_differ : diffL (beginS 7) (beginS 8) 7 = [pName 1] := by decide +kernel
theorem ex_right : rightS (beginS 7) = true := by decide +kernel

set_option maxRecDepth 100000 in
set_option maxHeartbeats 4000000 in
theorem awake_c (w : World) :
    Calls Try.prog 6 #[] w fun e w' => e = .returned (.bool true) ∧ Below w.heap.size w w' := by
  have HT := hid (ty_begin 7 (by decide))
  have HX := hid ex_differ
  have HP : Hid (packV (beginS 7) = .tuple #[.string ⟨(bytesS (beginS 7)).toArray⟩, .int .i64 0]) := hid (if_pos ex_right)
  have HB7 := fun W => rstart_c 7 W
  have HB8 := fun W => rstart_c 8 W
  have HDf := fun W => differ_c (beginS 7) (beginS 8) W
  have HPk := fun W => pack_c (beginS 7) W HT.out
  rw [HP.out] at HPk
  rw [HX.out] at HDf
  generalize beginS 7 = s7 at *
  generalize beginS 8 = s8 at *
  generalize bytesS s7 = τ at HPk HP
  go_enter Try.func6, Try.ntmps6
  go_upto_region 2 with (first
    | (go_at_call 15; ((with_reducible refine (HB7 _).mono ?_); rintro e w1 ⟨rfl, g1⟩; have HB1 := hid g1; clear g1))
    | ((with_reducible show wpList _ _ _ _ _ _); refine wpList_store_at rfl 33 _ _ rfl w1.heap.size 0 (stC s7) rfl rfl 33 _ (At.new w1 (stC zeroS).toArray 33) (by kernel_rfl) (by show 60 ≤ 60; decide) rfl ?_))
  generalize hW : World.setRow _ _ _ = w2
  have HA2 : Hid (At w2 w1.heap.size (stC s7).toArray 33) := hid (by rw [← hW]; exact at_row (At.new w1 (stC zeroS).toArray 33) _)
  have HB2 : Hid (Below w.heap.size w w2) := hid (by rw [← hW]; exact below_row (Ev.bt HB1.out (Ev.bal (Ev.br w1) (.cells (stC zeroS).toArray 33))) HB1.out.size _)
  clear hW
  refine wp_region_noPanic ?_
  refine wp_region_held_drew (S := (fun W => At W w1.heap.size (stC s7).toArray 33)) (by kernel_rfl) HA2.out.drew (fun hHeld => ?_)
  (refine takeW (i := 0) (d := 6) (v := .agg (stC s7).toArray) rfl rfl (by kernel_rfl) (by kernel_rfl) (by kernel_rfl) (fun _ _ _ h => h) (by rfl) ?_ (by assumption) ?_)
  · (intro W hSW; exact exec_load_at W 33 _ rfl w1.heap.size 0 rfl 33 _ (stC s7) (0, 0) _ hSW Try.underlying33 rfl (by kernel_rfl) (stC_slf s7))
  simp only [Act.put, List.setIfInBounds_toArray, List.set_cons_zero, List.set_cons_succ]
  refine wpAnyH_ready (rs := [1]) (by kernel_rfl) (by simp) ?_
  refine AllReadyH.cons (i := 1) rfl (fun K hKK => ?_) AllReadyH.nil
  go_simp
  ((with_reducible refine (HB8 _).mono ?_); rintro e u3 ⟨rfl, g3⟩)
  (try dsimp only)
  have HA3 := hid (HA2.out.below (Ev.bt (Ev.bd1 (Ev.br _)) g3))
  have HB3 := hid (Ev.bt HB2.out (Ev.bt (Ev.bd1 (Ev.br _)) g3))
  clear g3
  refine hKK.out _ _ HA3.out (fun hHeld => ?_)
  clear hKK K
  (try simp only [Act.put, List.setIfInBounds_toArray, List.set_cons_zero, List.set_cons_succ])
  refine wpAnyH_ready (rs := [2]) (by kernel_rfl) (by simp) ?_
  refine AllReadyH.cons (i := 2) rfl (fun K hKK => ?_) AllReadyH.nil
  go_simp
  ((with_reducible refine (HDf _).mono ?_); rintro e u4 ⟨v, rfl, ho⟩)
  (try dsimp only)
  have HO4 := hid ho
  have HA4 := hid (HA3.out.below ho.2.1)
  have HB4 := hid (Ev.bt HB3.out ho.2.1)
  clear ho
  refine hKK.out _ _ HA4.out (fun hHeld => ?_)
  clear hKK K
  (try simp only [Act.put, List.setIfInBounds_toArray, List.set_cons_zero, List.set_cons_succ])
  (refine takeW (i := 3) (d := 2) (v := ?_) rfl rfl (by kernel_rfl) (by kernel_rfl) (by kernel_rfl) (fun _ _ _ h => h) (by rfl) ?_ (by assumption) ?_)
  rotate_left
  · (intro W hSW; go_simp; (try with_reducible rfl))
  simp only [Act.put, List.setIfInBounds_toArray, List.set_cons_zero, List.set_cons_succ]
  refine wpAnyH_done (by kernel_rfl) ?_ _
  refine NoPanic.normal ?_
  have hs := strs_of HO4.out
  obtain ⟨ao, L, cap, rfl, hL, hc, hm, hcell⟩ := hs
  obtain rfl : L = 1 := hL.symm
  obtain ⟨b, o, rfl, hbw, hcl⟩ := hcell (by decide)
  have c0 : u4.cell? ⟨b, o, none⟩ = some (.string ⟨#[100, 105, 99, 101]⟩) := hcl 0 (by decide)
  have hc1 : (1 : Int) ≤ (cap : Int) := by omega
  clear hcl hcell hL hHeld
  go_wp2_with (first
    | ((with_reducible show wpList _ _ _ _ _ _); refine wpList_load_at rfl 33 _ rfl w1.heap.size 0 rfl 33 _ (stC s7) (0, 0) _ HA4.out Try.underlying33 rfl (by kernel_rfl) (stC_slf s7) ?_)
    | (go_at_call 7; ((with_reducible refine (HPk _).mono ?_); rintro e w5 ⟨rfl, g5⟩; have c5 := (g5.cell (p := ⟨b, o, none⟩) hbw).trans c0; have HB5 := hid (Ev.bt HB4.out g5); clear g5)))
  go_ret
  exact ⟨rfl, HB5.out⟩

theorem wpList_load_atf {P : Program} {ops : Array Oper} {rest : List Oper} {o : Oper} {a : Act} {w : World} {Q : Exit → Act → World → Prop} (hgd : Region.wanted o (yielded ops a.tmps) = true) (ty : TypeId) (x : Operand) (ho : o.op = .load ty x)
    (g k : Nat) (hx : a.eval x = .pointer (some ⟨g, k, none⟩)) (t : TypeId) (cs : Array Value) (vs : List Value) (fr : Nat × Nat) (d : TypeDesc) (hg : w.heap[g]? = some (.cells cs t fr))
    (hu : P.underlying ty = some d) (hd : (match d with | .struct _ | .array _ _ => true | _ => false) = true) (hi : (P.info? ty).map (·.size) = some vs.length) (hv : ∀ j v, vs[j]? = some v → cs[k + j]? = some v)
    (h : wpList P ops Q rest (a.put o.dst (.agg vs.toArray)) w) : wpList P ops Q (o :: rest) a w := by
  refine wpList_step fun K hK => ?_
  rw [if_pos hgd]
  exact Gm.wp_load_at ty x ho g k hx t cs vs fr d hg hu hd hi hv (hK _ _ h)
theorem pack_no {s : St} (h : rightS s = false) : packV s = .tuple #[.string ⟨#[]⟩, .int .i64 1] := if_neg (by rw [h]; decide)
theorem pack_yes {s : St} (h : rightS s = true) : packV s = .tuple #[.string ⟨(bytesS s).toArray⟩, .int .i64 0] := if_pos h
theorem sum_no {s : St} (h : rightS s = false) : sumV s = .tuple #[.int .u32 0, .int .i64 1] := if_neg (by rw [h]; decide)
theorem sum_yes {s : St} (h : rightS s = true) : sumV s = .tuple #[.int .u32 (Sm.ofI (bytesS s)), .int .i64 0] := if_pos h
theorem unpV_some {σ : List UInt8} {s : St} (h : unpR σ = some s) : unpV σ = .tuple #[.agg (stC s).toArray, .int .i64 0] := by unfold unpV; rw [h]; rfl
theorem unpV_none {σ : List UInt8} (h : unpR σ = none) : unpV σ = .tuple #[.agg (stC zeroS).toArray, .int .i64 4] := by unfold unpV; rw [h]; rfl

set_option maxRecDepth 100000 in
set_option maxHeartbeats 4000000 in
theorem packs_w (s : St) (w : World) (hT : Ty s) :
    Calls Try.prog 3 #[.agg (stC s).toArray] w fun e w' => e = .returned (.bool true) ∧ Below w.heap.size w w' := by
  have HA0 := hid (At.new w (stC s).toArray 33)
  have HB0 := hid (Ev.bal (Ev.br w) (.cells (stC s).toArray 33))
  have HPk := fun W => pack_c s W hT
  have HSm := fun W => sum_c s W hT
  have HRi := fun W => rright_c s W
  cases hr : rightS s
  · rw [pack_no hr] at HPk
    rw [sum_no hr] at HSm
    rw [hr] at HRi
    clear hr hT
    generalize hC : stC s = cs at HA0 HB0
    go_enter Try.func3, Try.ntmps3
    go_upto_region 1 with fail
    subst hC
    generalize World.alloc w _ = w0 at HA0 HB0 ⊢
    go_wp2_with (first
      | (go_at_call 6; ((with_reducible refine (awake_c _).mono ?_); rintro e w1 ⟨rfl, g1⟩; have HB1 := hid (Ev.bt HB0.out g1); have HA1 := hid (HA0.out.below g1)))
      | ((with_reducible show wpList _ _ _ _ _ _); refine wpList_load_at rfl 33 _ rfl w.heap.size 0 rfl 33 _ (stC s) (0, 0) _ HA1.out Try.underlying33 rfl (by kernel_rfl) (stC_slf s) ?_)
      | (go_at_call 7; ((with_reducible refine (HPk _).mono ?_); rintro e w2 ⟨rfl, g2⟩; have HB2 := hid (Ev.bt HB1.out g2); have HA2 := hid (HA1.out.below g2)))
      | ((with_reducible show wpList _ _ _ _ _ _); refine wpList_load_at rfl 33 _ rfl w.heap.size 0 rfl 33 _ (stC s) (0, 0) _ HA2.out Try.underlying33 rfl (by kernel_rfl) (stC_slf s) ?_)
      | (go_at_call 8; ((with_reducible refine (HSm _).mono ?_); rintro e w3 ⟨rfl, g3⟩; have HB3 := hid (Ev.bt HB2.out g3); have HA3 := hid (HA2.out.below g3)))
      | ((with_reducible show wpList _ _ _ _ _ _); refine wpList_load_at rfl 33 _ rfl w.heap.size 0 rfl 33 _ (stC s) (0, 0) _ HA3.out Try.underlying33 rfl (by kernel_rfl) (stC_slf s) ?_)
      | (go_at_call 9; ((with_reducible refine (HRi _).mono ?_); rintro e w4 ⟨rfl, g4⟩; have HB4 := hid (Ev.bt HB3.out g4); have HA4 := hid (HA3.out.below g4))))
    go_ret
    exact ⟨rfl, HB4.out⟩
  · have HUn := fun W => unpack_c (bytesS s) W (by have := bytes_len hT hr; omega)
    have HRp := fun W => rpack_c s W hT hr
    have HRs := fun W => rsum_c s W hT hr
    rw [unpV_some (unp_yes hT hr rfl)] at HUn
    rw [pack_yes hr] at HPk
    rw [sum_yes hr] at HSm
    rw [hr] at HRi
    have hq : ∀ W : World, (binOp .eql 33 (.agg (stC s).toArray) (.agg (stC s).toArray)).run Try.prog W = .ok (.bool true) W := fun W => by
      have := eqS s s W
      rw [decide_eq_true rfl] at this
      exact this
    generalize Sm.ofI (bytesS s) = n at HSm HRs
    generalize bytesS s = τ at HUn HRp HPk
    clear hr hT
    generalize hC : stC s = cs at HA0 HB0
    go_enter Try.func3, Try.ntmps3
    go_upto_region 1 with fail
    subst hC
    generalize World.alloc w _ = w0 at HA0 HB0 ⊢
    go_upto_region 8 with (first
      | (go_at_call 6; ((with_reducible refine (awake_c _).mono ?_); rintro e w1 ⟨rfl, g1⟩; have HB1 := hid (Ev.bt HB0.out g1); have HA1 := hid (HA0.out.below g1)))
      | ((with_reducible show wpList _ _ _ _ _ _); refine wpList_load_at rfl 33 _ rfl w.heap.size 0 rfl 33 _ (stC s) (0, 0) _ HA1.out Try.underlying33 rfl (by kernel_rfl) (stC_slf s) ?_)
      | (go_at_call 7; ((with_reducible refine (HPk _).mono ?_); rintro e w2 ⟨rfl, g2⟩; have HB2 := hid (Ev.bt HB1.out g2); have HA2 := hid (HA1.out.below g2)))
      | ((with_reducible show wpList _ _ _ _ _ _); refine wpList_load_at rfl 33 _ rfl w.heap.size 0 rfl 33 _ (stC s) (0, 0) _ HA2.out Try.underlying33 rfl (by kernel_rfl) (stC_slf s) ?_)
      | (go_at_call 8; ((with_reducible refine (HSm _).mono ?_); rintro e w3 ⟨rfl, g3⟩; have HB3 := hid (Ev.bt HB2.out g3); have HA3 := hid (HA2.out.below g3)))
      | ((with_reducible show wpList _ _ _ _ _ _); refine wpList_load_at rfl 33 _ rfl w.heap.size 0 rfl 33 _ (stC s) (0, 0) _ HA3.out Try.underlying33 rfl (by kernel_rfl) (stC_slf s) ?_)
      | (go_at_call 9; ((with_reducible refine (HRi _).mono ?_); rintro e w4 ⟨rfl, g4⟩; have HB4 := hid (Ev.bt HB3.out g4); have HA4 := hid (HA3.out.below g4)))
      | (go_at_call 10; ((with_reducible refine (HUn _).mono ?_); rintro e w5 ⟨rfl, g5⟩; have HB5 := hid (Ev.bt HB4.out g5); have HA5 := hid (HA4.out.below g5)))
      | ((with_reducible show wpList _ _ _ _ _ _); refine wpList_store_at rfl 33 _ _ rfl w5.heap.size 0 (stC s) rfl rfl 33 _ (At.new w5 (stC zeroS).toArray 33) (by kernel_rfl) (by show 60 ≤ 60; decide) rfl ?_))
    generalize hW : World.setRow _ _ _ = w6
    have HX6 : Hid (At w6 w5.heap.size (stC s).toArray 33) := hid (by rw [← hW]; exact at_row (At.new w5 (stC zeroS).toArray 33) _)
    have HA6 : Hid (At w6 w.heap.size (stC s).toArray 33) := hid (by rw [← hW]; exact at_row_far (HA5.out.more _) (Nat.ne_of_lt (at_lt HA5.out)) _)
    have HB6 : Hid (Below w.heap.size w w6) := hid (by rw [← hW]; exact below_row (Ev.bt HB5.out (Ev.bal (Ev.br w5) (.cells (stC zeroS).toArray 33))) HB5.out.size _)
    clear hW
    go_wp2_with (first
      | ((with_reducible show wpList _ _ _ _ _ _); refine wpList_load_at rfl 33 _ rfl w.heap.size 0 rfl 33 _ (stC s) (0, 0) _ HA6.out Try.underlying33 rfl (by kernel_rfl) (stC_slf s) ?_)
      | (go_at_call 11; ((with_reducible refine (HRp _).mono ?_); rintro e w7 ⟨rfl, g7⟩; have HB7 := hid (Ev.bt HB6.out g7); have HA7 := hid (HA6.out.below g7); have HX7 := hid (HX6.out.below g7)))
      | ((with_reducible show wpList _ _ _ _ _ _); refine wpList_load_atf (by rfl) 33 _ rfl w.heap.size 0 rfl 33 _ (stC s) (0, 0) _ HA7.out Try.underlying33 rfl (by kernel_rfl) (stC_slf s) ?_)
      | (go_at_call 12; ((with_reducible refine (HRs _).mono ?_); rintro e w8 ⟨rfl, g8⟩; have HB8 := hid (Ev.bt HB7.out g8); have HA8 := hid (HA7.out.below g8); have HX8 := hid (HX7.out.below g8)))
      | ((with_reducible show wpList _ _ _ _ _ _); refine wpList_load_atf (by rfl) 33 _ rfl w5.heap.size 0 rfl 33 _ (stC s) (0, 0) _ HX8.out Try.underlying33 rfl (by kernel_rfl) (stC_slf s) ?_)
      | ((with_reducible show wpList _ _ _ _ _ _); refine wpList_load_atf (by rfl) 33 _ rfl w.heap.size 0 rfl 33 _ (stC s) (0, 0) _ HA8.out Try.underlying33 rfl (by kernel_rfl) (stC_slf s) ?_))
    go_ret
    exact ⟨rfl, HB8.out⟩
end Go.Proofs.Ythbncbdnpeglfaa.Fz
