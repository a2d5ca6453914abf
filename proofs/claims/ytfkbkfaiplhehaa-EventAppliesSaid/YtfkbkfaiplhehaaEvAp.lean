/- What Apply returns (layer 11, event). -/
import Derived.Test.YtfkbkfaiplhehaaEvSu
import Derived.Test.YtfkbkfaiplhehaaEvRa
namespace Go.Proofs.Ytfkbkfaiplhehaa.Ev
open Go.RowKit
set_option linter.unusedVariables false

/-- what becomes of an event that was there. -/
def midF (gone : List Ky) (turned : List Ev) (x : Ev) : Option Ev := if x.key ∈ gone then none else some ((getK turned x.key).getD x)
def midL (was : List Ev) (gone : List Ky) (turned : List Ev) : List Ev := was.filterMap (midF gone turned)
def applyR (was : List Ev) (gone : List Ky) (fresh turned : List Ev) : List Ev × Int :=
  if suitE was gone fresh turned = 0 then sortR (midL was gone turned ++ fresh) else ([], suitE was gone fresh turned)
theorem mid_step {was : List Ev} {gone : List Ky} {turned : List Ev} {k : Nat} {x : Ev} (hx : was[k]? = some x) : midL (was.take (k + 1)) gone turned = midL (was.take k) gone turned ++ (midF gone turned x).toList := by
  unfold midL
  rw [← take_snoc hx, List.filterMap_append]
  cases h : midF gone turned x <;> simp [h]
theorem mid_len (was : List Ev) (gone : List Ky) (turned : List Ev) : (midL was gone turned).length ≤ was.length := List.length_filterMap_le _ _

theorem run_app_none {P : Program} {w : World} (base : Nat) (t ty e : TypeId) (i : TypeInfo) (size c : Nat) (ht : P.underlying t = some (.slice e)) (hi : P.info? e = some i)
    (v : Value) (n : Nat) (xs : List Value) (hown : w.ownsRow base e size v n xs) :
    (Builtin.append_ #[t, t] ty #[v, .slice none 0 c]).run P w = .ok v w := by
  rcases hown.2 with ⟨rfl, rfl⟩ | ⟨g, cap, cur, rfl, _, _, hnc, _⟩
  · simp [Builtin.append_, run_underlying ht, sizeOf, typeInfo, hi, Builtin.lenOf, Builtin.firstCells]
  · simp [Builtin.append_, run_underlying ht, sizeOf, typeInfo, hi, Builtin.lenOf, Builtin.firstCells, hnc, storeCells]
/-- some events that are read, at the end of a list of the call's own. -/
theorem app_sl {ops : Array Oper} {rest : List Oper} {o : Oper} {a : Act} {Q : Exit → Act → World → Prop} (w : World) (hgd : o.guard = none) (s x : Operand)
    (ho : o.op = .call { callee := .builtin .append, args := #[s, x], argTypes := #[22, 22] })
    (B : Nat) (v : Value) (l : List Ev) (hs : a.eval s = v) (hown : w.ownsRow B 31 9 v l.length (flat ecs l)) (W0 : World) (hB : Below B W0 w) (hB0 : B ≤ W0.heap.size) (u : Value) (k : List Ev) (hu : Evs w u k) (hx : a.eval x = u) (hlen : l.length ≤ 4096) (hlen2 : k.length ≤ 4096)
    (h : ∀ v' w', w'.ownsRow B 31 9 v' (l ++ k).length (flat ecs (l ++ k)) → Below B W0 w' → wpList Try.prog ops Q rest (a.put o.dst v') w') :
    wpList Try.prog ops Q (o :: rest) a w := by
  obtain ⟨i0, hi, hz0, hz1, hz2⟩ := info_parts info_event
  have hsz := hB.size
  obtain ⟨ao, L, cap, rfl, hL, hc, hm, ht⟩ := hu
  cases ao with
  | none =>
    have h0 : k.length = 0 := by
      rcases Nat.eq_zero_or_pos k.length with e | e
      · exact e
      · obtain ⟨b, o, e, _⟩ := ht e
        cases e
    have hnil : k = [] := List.length_eq_zero_iff.1 h0
    subst hnil
    obtain rfl : L = 0 := by simpa using hL.symm
    refine wpList_plain hgd fun K hK => ?_
    have hrun := run_app_none (P := Try.prog) (w := w) B 22 o.type 31 i0 9 cap Try.underlying22 hi v l.length (flat ecs l) hown
    unfold Oper.wp
    simp [execOp, ho, resolve, invoke, builtin, hs, hx, hrun, Result.andThen]
    exact hK _ _ (h v w (by simpa using hown) hB)
  | some ad =>
    have hF := row_flat (k := 9) (fun _ => rfl) (by decide) ht
    have hfl : (flat ecs k).length = k.length * 9 := flat_len (enc := ecs) (fun _ => rfl) k
    refine wpList_append_own_at _ hgd s x 22 ho B 31 i0 (ev zeroE) 9 72 Try.underlying22 hi hz0 hz1 hz2 rfl (by decide) v l.length (flat ecs l) hs hown ad L cap (flat ecs k) hx (by rw [hfl, hL]) hF (flat_cell ecs_one k) (by unfold maxLen; omega) (by omega) (by omega) ?_
    intro v' w' h1 h2 _ h3
    refine h v' w' ?_ (hB.grown h2 (by omega) (fun j e => (hown.lt j e).1))
    rw [flat_append, List.length_append, hL]
    exact h1

set_option maxRecDepth 100000 in
set_option maxHeartbeats 1000000 in
theorem apply_no (u g f t : Value) (was : List Ev) (gone : List Ky) (fresh turned : List Ev) (w : World) (hu : Evs w u was) (hg : Kys w g gone) (hf : Evs w f fresh) (ht : Evs w t turned) (lg : gone.length ≤ 4096) (hS : suitE was gone fresh turned ≠ 0) :
    Calls Try.prog 21 #[u, .agg #[g, f, t]] w fun e w' => e = .returned (.tuple #[.slice none 0 0, .int .i64 (suitE was gone fresh turned)]) ∧ Below w.heap.size w w' := by
  have HB0 := hid (bal (br w) (.cells #[g, f, t] 38))
  have hc0 := (At.new w #[g, f, t] 38).three
  have HS := hid (suits_c u g f t was gone fresh turned _ (hu.below HB0.out) (hg.below HB0.out) (hf.below HB0.out) (ht.below HB0.out) lg)
  obtain ⟨n, hn⟩ : ∃ n, Hid (suitE was gone fresh turned = n) := ⟨_, hid rfl⟩
  rw [hn.out] at HS hS ⊢
  have hd : (n == 0) = false := by simpa using hS
  have hd2 : (n != 0) = true := by simpa using hS
  obtain ⟨c0, c1, c2⟩ := hc0
  clear hu hg hf ht
  go_enter Try.func21, Try.ntmps21
  go_wp2_with (go_at_call 44; ((with_reducible refine HS.out.mono ?_); rintro e w1 ⟨rfl, g1⟩))
  go_ret2
  exact ⟨rfl, bt HB0.out g1⟩

theorem At.set9 {w : World} {b : Nat} {x0 x1 x2 x3 x4 x5 x6 x7 x8 : Value} {T : TypeId} (h : At w b #[x0, x1, x2, x3, x4, x5, x6, x7, x8] T) (v0 v1 v2 v3 v4 v5 v6 v7 v8 : Value) {B W0} (hB : Below B W0 w) (hb : B ≤ b) :
    At (((((((((w.setCell ⟨b, 0, none⟩ v0).setCell ⟨b, 1, none⟩ v1).setCell ⟨b, 2, none⟩ v2).setCell ⟨b, 3, none⟩ v3).setCell ⟨b, 4, none⟩ v4).setCell ⟨b, 5, none⟩ v5).setCell ⟨b, 6, none⟩ v6).setCell ⟨b, 7, none⟩ v7).setCell ⟨b, 8, none⟩ v8) b #[v0, v1, v2, v3, v4, v5, v6, v7, v8] T ∧
    Below B W0 (((((((((w.setCell ⟨b, 0, none⟩ v0).setCell ⟨b, 1, none⟩ v1).setCell ⟨b, 2, none⟩ v2).setCell ⟨b, 3, none⟩ v3).setCell ⟨b, 4, none⟩ v4).setCell ⟨b, 5, none⟩ v5).setCell ⟨b, 6, none⟩ v6).setCell ⟨b, 7, none⟩ v7).setCell ⟨b, 8, none⟩ v8) ∧
    (∀ {c cs T2}, At w c cs T2 → c ≠ b → At (((((((((w.setCell ⟨b, 0, none⟩ v0).setCell ⟨b, 1, none⟩ v1).setCell ⟨b, 2, none⟩ v2).setCell ⟨b, 3, none⟩ v3).setCell ⟨b, 4, none⟩ v4).setCell ⟨b, 5, none⟩ v5).setCell ⟨b, 6, none⟩ v6).setCell ⟨b, 7, none⟩ v7).setCell ⟨b, 8, none⟩ v8) c cs T2) ∧
    (∀ {B' n k t v xs}, w.ownsRow B' t k v n xs → some b ≠ v.ownBlock → (((((((((w.setCell ⟨b, 0, none⟩ v0).setCell ⟨b, 1, none⟩ v1).setCell ⟨b, 2, none⟩ v2).setCell ⟨b, 3, none⟩ v3).setCell ⟨b, 4, none⟩ v4).setCell ⟨b, 5, none⟩ v5).setCell ⟨b, 6, none⟩ v6).setCell ⟨b, 7, none⟩ v7).setCell ⟨b, 8, none⟩ v8).ownsRow B' t k v n xs) := by
  refine ⟨h.put9 _ _ _ _ _ _ _ _ _, ?_, ?_, ?_⟩
  · exact ((((((((hB.setCell (p := ⟨b, 0, none⟩) hb _).setCell (p := ⟨b, 1, none⟩) hb _).setCell (p := ⟨b, 2, none⟩) hb _).setCell (p := ⟨b, 3, none⟩) hb _).setCell (p := ⟨b, 4, none⟩) hb _).setCell (p := ⟨b, 5, none⟩) hb _).setCell (p := ⟨b, 6, none⟩) hb _).setCell (p := ⟨b, 7, none⟩) hb _).setCell (p := ⟨b, 8, none⟩) hb _
  · intro c cs T2 hc hne
    exact ((((((((hc.far hne _).far hne _).far hne _).far hne _).far hne _).far hne _).far hne _).far hne _).far hne _
  · intro B' n k t v xs ho hne
    exact own_set (own_set (own_set (own_set (own_set (own_set (own_set (own_set (own_set ho hne _) hne _) hne _) hne _) hne _) hne _) hne _) hne _) hne _

end Go.Proofs.Ytfkbkfaiplhehaa.Ev
