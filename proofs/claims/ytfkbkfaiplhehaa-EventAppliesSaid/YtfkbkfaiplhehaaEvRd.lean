/- What the document's Diff returns (layer 11, event). -/
import Derived.Test.YtfkbkfaiplhehaaEvDg
namespace Go.Proofs.Ytfkbkfaiplhehaa.Ev
open Go.RowKit
set_option linter.unusedVariables false

theorem rat_no (v : Value) (l : List Ev) (q : Ky) (w : World) (h : Evs w v l) (hq : getK l q = none) :
    Calls Try.prog 43 #[v, kv q] w fun e w' => e = .returned (.int .i64 (-1)) ∧ Gr w w' := by
  refine (rat_c v l q w h).mono ?_
  rintro e w' ⟨⟨r, rfl, ⟨rfl, _⟩ | ⟨i, x, rfl, h1, h2⟩⟩, g⟩
  · exact ⟨rfl, g⟩
  · rw [hq] at h2; cases h2
theorem rat_yes (v : Value) (l : List Ev) (q : Ky) (y : Ev) (w : World) (h : Evs w v l) (hq : getK l q = some y) :
    Calls Try.prog 43 #[v, kv q] w fun e w' => ∃ i : Nat, e = .returned (.int .i64 (i : Int)) ∧ l[i]? = some y ∧ Gr w w' := by
  refine (rat_c v l q w h).mono ?_
  rintro e w' ⟨⟨r, rfl, ⟨rfl, h2⟩ | ⟨i, x, rfl, h1, h2⟩⟩, g⟩
  · rw [hq] at h2; cases h2
  · rw [hq] at h2; cases h2; exact ⟨i, rfl, h1, g⟩
theorem Row.ev2 {w : World} {b o : Nat} {l : List Ev} (h : Row ecs 9 w (some ⟨b, o, none⟩) l) {j : Nat} {x : Ev} (hx : l[j]? = some x) : b < w.heap.size ∧
    w.cell? ⟨b, o + j * 9, none⟩ = some (.int .i64 x.key.f) ∧ w.cell? ⟨b, o + j * 9 + 1, none⟩ = some (.int .i64 x.key.e) ∧ w.cell? ⟨b, o + j * 9 + 2, none⟩ = some (.int .i64 x.key.k) ∧ w.cell? ⟨b, o + j * 9 + 3, none⟩ = some (.int .i64 x.key.o) ∧ w.cell? ⟨b, o + j * 9 + 4, none⟩ = some (.int .i64 x.a) ∧ w.cell? ⟨b, o + j * 9 + 5, none⟩ = some (.int .i64 x.g) ∧ w.cell? ⟨b, o + j * 9 + 6, none⟩ = some (.int .i64 x.p) ∧ w.cell? ⟨b, o + j * 9 + 7, none⟩ = some (.int .i64 x.r) ∧ w.cell? ⟨b, o + j * 9 + 8, none⟩ = some (.int .i64 x.l) := by
  obtain ⟨b', o', e, rest⟩ := h.ev hx
  injection e with e
  injection e with e1 e2 _
  subst e1 e2
  exact rest

/-- the three lists of the document's Diff. -/
structure Rm (w W : World) (g f t : Value) (lg : List Ky) (lf lt : List Ev) : Prop where
  og : W.ownsRow w.heap.size 24 4 g lg.length (flat kcs lg)
  of : W.ownsRow w.heap.size 31 9 f lf.length (flat ecs lf)
  ot : W.ownsRow w.heap.size 31 9 t lt.length (flat ecs lt)
  ne : f.ownBlock = none ∨ f.ownBlock ≠ t.ownBlock
  old : Below w.heap.size w W
theorem Rm.below {w W W' : World} {g f t : Value} {lg : List Ky} {lf lt : List Ev} (h : Rm w W g f t lg lf lt) (b : Below W.heap.size W W') : Rm w W' g f t lg lf lt :=
  ⟨own_old h.og b, own_old h.of b, own_old h.ot b, h.ne, bt h.old b⟩
theorem Rm.appG {w W W' : World} {g f t v' : Value} {lg : List Ky} {lf lt : List Ev} {y : Ky} (h : Rm w W g f t lg lf lt) (m : More w.heap.size 24 4 w W g (lg ++ [y]).length (flat kcs (lg ++ [y])) v' W') :
    Rm w W' v' f t (lg ++ [y]) lf lt := by
  obtain ⟨m1, m2, m3, m4⟩ := m
  exact ⟨m1, h.of.kept m3 (rows_apart h.of h.og (by decide)), h.ot.kept m3 (rows_apart h.ot h.og (by decide)), h.ne, m2⟩
theorem Rm.appF {w W W' : World} {g f t v' : Value} {lg : List Ky} {lf lt : List Ev} {y : Ev} (h : Rm w W g f t lg lf lt) (m : More w.heap.size 31 9 w W f (lf ++ [y]).length (flat ecs (lf ++ [y])) v' W') :
    Rm w W' g v' t lg (lf ++ [y]) lt := by
  obtain ⟨m1, m2, m3, m4⟩ := m
  have hg := h.og.kept m3 (rows_apart h.og h.of (by decide))
  have hne : t.ownBlock = none ∨ t.ownBlock ≠ f.ownBlock := by
    rcases h.ne with h1 | h1
    · cases hb : t.ownBlock with
      | none => exact .inl rfl
      | some b => rw [h1]; exact .inr (by simp)
    · exact .inr (Ne.symm h1)
  refine ⟨hg, m1, h.ot.kept m3 hne, ?_, m2⟩
  rcases m4 with h1 | ⟨b, h1, h2⟩
  · rw [h1]; exact h.ne
  · refine .inr fun e => ?_
    have := (h.ot.lt b (by rw [← e]; exact h1)).2
    omega
theorem Rm.appT {w W W' : World} {g f t v' : Value} {lg : List Ky} {lf lt : List Ev} {y : Ev} (h : Rm w W g f t lg lf lt) (m : More w.heap.size 31 9 w W t (lt ++ [y]).length (flat ecs (lt ++ [y])) v' W') :
    Rm w W' g f v' lg lf (lt ++ [y]) := by
  obtain ⟨m1, m2, m3, m4⟩ := m
  have hg := h.og.kept m3 (rows_apart h.og h.ot (by decide))
  refine ⟨hg, h.of.kept m3 h.ne, m1, ?_, m2⟩
  rcases m4 with h1 | ⟨b, h1, h2⟩
  · rw [h1]; exact h.ne
  · cases hb : f.ownBlock with
    | none => exact .inl rfl
    | some b' =>
      refine .inr fun e => ?_
      rw [h1] at e
      injection e with e
      have := (h.of.lt b' hb).2
      omega
theorem app_evm {ops : Array Oper} {rest : List Oper} {o : Oper} {a : Act} {Q : Exit → Act → World → Prop} (w : World) (hgd : o.guard = none) (s x : Operand)
    (ho : o.op = .call { callee := .builtin .append, args := #[s, x], argTypes := #[22, 22] })
    (B : Nat) (v : Value) (l : List Ev) (hs : a.eval s = v) (hown : w.ownsRow B 31 9 v l.length (flat ecs l)) (W0 : World) (hB : Below B W0 w) (hB0 : B ≤ W0.heap.size) (y : Ev) (hx : a.eval x = .slice (some ⟨w.heap.size, 0, none⟩) 1 1) (hlen : l.length ≤ 4096)
    (h : ∀ v' w', More B 31 9 W0 w v (l ++ [y]).length (flat ecs (l ++ [y])) v' w' → wpList Try.prog ops Q rest (a.put o.dst v') w') :
    wpList Try.prog ops Q (o :: rest) a (w.alloc (.cells #[.int .i64 y.key.f, .int .i64 y.key.e, .int .i64 y.key.k, .int .i64 y.key.o, .int .i64 y.a, .int .i64 y.g, .int .i64 y.p, .int .i64 y.r, .int .i64 y.l] 31)) :=
  app_ev w hgd s x ho B v l hs hown W0 hB hB0 y hx hlen (fun v' w' h1 h2 h3 h4 => h v' w' ⟨h1, h2, h3, h4⟩)
theorem app_kym {ops : Array Oper} {rest : List Oper} {o : Oper} {a : Act} {Q : Exit → Act → World → Prop} (w : World) (hgd : o.guard = none) (s x : Operand)
    (ho : o.op = .call { callee := .builtin .append, args := #[s, x], argTypes := #[36, 36] })
    (B : Nat) (v : Value) (l : List Ky) (hs : a.eval s = v) (hown : w.ownsRow B 24 4 v l.length (flat kcs l)) (W0 : World) (hB : Below B W0 w) (hB0 : B ≤ W0.heap.size) (y : Ky) (hx : a.eval x = .slice (some ⟨w.heap.size, 0, none⟩) 1 1) (hlen : l.length ≤ 4096)
    (h : ∀ v' w', More B 24 4 W0 w v (l ++ [y]).length (flat kcs (l ++ [y])) v' w' → wpList Try.prog ops Q rest (a.put o.dst v') w') :
    wpList Try.prog ops Q (o :: rest) a (w.alloc (.cells #[.int .i64 y.f, .int .i64 y.e, .int .i64 y.k, .int .i64 y.o] 24)) := by
  obtain ⟨i0, hi, hz0, hz1, hz2⟩ := info_parts info_key
  have hsz := hB.size
  refine wpList_append_own_at _ hgd s x 36 ho B 24 i0 (kv zeroK) 4 32 Try.underlying36 hi hz0 hz1 hz2 rfl (by decide) v l.length (flat kcs l) hs (hown.alloc _) ⟨w.heap.size, 0, none⟩ 1 1 (kcs y) hx rfl (cell_four_new w y _) (kcs_one y) (by unfold maxLen; omega) (by omega) (by simp; omega) ?_
  intro v' w' h1 h2 _ h3
  have hg : w.grownBy w' v.ownBlock := (World.grownBy_alloc w _ v.ownBlock).trans h2
  refine h v' w' ⟨?_, ?_, hg, ?_⟩
  · rw [flat_snoc, List.length_append, List.length_singleton]
    exact h1
  · exact hB.grown hg (by omega) (fun k e => (hown.lt k e).1)
  · rcases h3 with h3 | h3
    · exact .inl h3
    · exact .inr ⟨_, h3, by simp⟩
theorem gone_step {was now : List Ev} {k : Nat} {x : Ev} (hx : was[k]? = some x) : goneL (was.take (k + 1)) now = if (getK now x.key).isNone = true then goneL (was.take k) now ++ [x.key] else goneL (was.take k) now := by
  unfold goneL
  rw [← take_snoc hx]
  simp only [keys, List.map_append, List.map_cons, List.map_nil, List.filter_append]
  split <;> rename_i h <;> simp [h]

set_option maxRecDepth 100000 in
set_option maxHeartbeats 2000000 in
theorem rdiff_c (u v : Value) (was now : List Ev) (w : World) (hu : Evs w u was) (hv : Evs w v now) (h1 : was.length ≤ 64) (h2 : now.length ≤ 64) :
    Calls Try.prog 20 #[u, v] w fun e w' => ∃ g f t, e = .returned (.tuple #[g, f, t]) ∧ Kys w' g (goneL was now) ∧ Evs w' f (freshL was now) ∧ Evs w' t (turnedL was now) ∧ Below w.heap.size w w' := by
  have HU := hid hu
  have HV := hid hv
  obtain ⟨ao, L, cap, rfl, hL, hc, hm, ht⟩ := hu
  obtain ⟨ao2, L2, cap2, rfl, hL2, hc2, hm2, ht2⟩ := hv
  have HL := hid hL
  have HL2 := hid hL2
  have HT := hid ht
  have HT2 := hid ht2
  have hl1 : L ≤ 64 := by omega
  have hl2 : L2 ≤ 64 := by omega
  have H0 : Hid (Rm w (((w.alloc (.cells #[] 24)).alloc (.cells #[] 31)).alloc (.cells #[] 31)) (.slice (some ⟨w.heap.size, 0, none⟩) 0 0) (.slice (some ⟨w.heap.size + 1, 0, none⟩) 0 0) (.slice (some ⟨w.heap.size + 1 + 1, 0, none⟩) 0 0) [] [] []) := by
    refine ⟨?_, ?_, ?_, ?_, ?_⟩
    · exact ((World.ownsRow_made (e := 24) (size := 4) w #[] 0 (Nat.le_refl _) (Nat.zero_le _) (by simp)).alloc _).alloc _
    · have := (World.ownsRow_made (e := 31) (size := 9) (w.alloc (.cells #[] 24)) #[] 0 (Nat.le_refl _) (Nat.zero_le _) (by simp)).alloc (.cells #[] 31)
      have h2 := owns_base this (B' := w.heap.size) (by simp)
      simpa [flat] using h2
    · have := World.ownsRow_made (e := 31) (size := 9) ((w.alloc (.cells #[] 24)).alloc (.cells #[] 31)) #[] 0 (Nat.le_refl _) (Nat.zero_le _) (by simp)
      have h2 := owns_base this (B' := w.heap.size) (by simp; omega)
      simpa [flat] using h2
    · exact .inr (by simp [Value.ownBlock])
    · exact bal (bal (bal (br w) _) _) _
  clear hL hL2 ht ht2 h1 h2
  go_enter Try.func20, Try.ntmps20
  go_wp2_with fail
  generalize ((w.alloc (.cells #[] 24)).alloc (.cells #[] 31)).alloc (.cells #[] 31) = w0 at H0 ⊢
  generalize (Value.slice (some ⟨w.heap.size + 1, 0, none⟩) 0 0) = f0 at H0 ⊢
  generalize (Value.slice (some ⟨w.heap.size + 1 + 1, 0, none⟩) 0 0) = t0 at H0 ⊢
  go_loopw [7, 10] (fun gv i wr => ∃ (k : Nat) (g : Value), k ≤ L ∧ i = .int .i64 k ∧ g = gv ∧ Rm w wr g f0 t0 (goneL (was.take k) now) [] []) (fun _ i _ => L - (intOf i).toNat)
  case atStart => exact ⟨0, _, Nat.zero_le _, rfl, rfl, H0.out⟩
  case round =>
    obtain ⟨k, g, hk, rfl, rfl, hR⟩ := hrel
    have HR := hid hR
    have hlg : (goneL (was.take k) now).length ≤ 4096 := filter_len _ _ (by rw [List.length_map, List.length_take]; omega)
    by_cases hlt : k < L
    · obtain ⟨x, hx⟩ := get_lt HL.out hlt
      obtain ⟨b, o, rfl, hb, c0, c1, c2, c3, c4, c5, c6, c7, c8⟩ := (HT.out.below hR.old).ev hx
      have HX := hid hx
      have hk1 : (k : Int) < (L : Int) := by omega
      have hk0 : (0 : Int) ≤ (k : Int) := by omega
      have HS := hid (gone_step (now := now) hx)
      generalize goneL (was.take k) now = lg at HR hR HS hlg
      clear hx c4 c5 c6 c7 c8
      cases hE : getK now x.key with
      | none =>
        have HP := hid (rat_no _ now x.key _ (HV.out.below hR.old) hE)
        rw [hE] at HS
        simp only [Option.isNone_none, if_true] at HS
        clear hR hE
        go_wp2_with (first
          | (go_at_call 43; ((with_reducible refine HP.out.mono ?_); rintro e w1 ⟨rfl, g1⟩; have HR1 := hid (HR.out.below g1.below); obtain ⟨_, d0, d1, d2, d3, _⟩ := (HT.out.below HR1.out.old).ev2 HX.out))
          | (at_builtin; refine app_kym _ rfl (.tmp 30) (.tmp 36) rfl w.heap.size _ _ rfl HR1.out.og w HR1.out.old (Nat.le_refl _) x.key rfl hlg ?_; intro v' w2 hM; have HR2 := hid (HR1.out.appG hM); clear hM))
        go_roundw
        case rel => exact ⟨k + 1, _, by omega, by go_num, rfl, by rw [HS.out]; exact HR2.out⟩
        case measure => simp [intOf]; omega
      | some y =>
        have HP := hid (rat_yes _ now x.key y _ (HV.out.below hR.old) hE)
        rw [hE] at HS
        simp only [Option.isNone_some, Bool.false_eq_true, if_false] at HS
        clear hR hE
        go_wp2_with (go_at_call 43; ((with_reducible refine HP.out.mono ?_); rintro e w1 ⟨i, rfl, hi, g1⟩; have HR1 := hid (HR.out.below g1.below); have hi0 : ¬ ((i : Int) < 0) := (by omega); have hi1 : decide ((i : Int) < 0) = false := decide_eq_false hi0; clear hi))
        go_roundw
        case rel => exact ⟨k + 1, _, by omega, by go_num, rfl, by rw [HS.out]; exact HR1.out⟩
        case measure => simp [intOf]; omega
    · have htk : was.take k = was := List.take_of_length_le (by have := HL.out; omega)
      have hd0 : decide ((k : Int) < (L : Int)) = false := by simp; omega
      rw [htk] at HR hlg
      obtain ⟨lgn, HLG⟩ : ∃ lgn, Hid (goneL was now = lgn) := ⟨_, hid rfl⟩
      rw [HLG.out] at HR hlg
      clear htk hR
      go_wp2_with fail
      go_loopw [8, 9, 11] (fun f t i wr => ∃ k : Nat, k ≤ L2 ∧ i = .int .i64 k ∧ Rm w wr g f t lgn (freshL was (now.take k)) (turnedL was (now.take k))) (fun _ _ i _ => L2 - (intOf i).toNat)
      case atStart => exact ⟨0, Nat.zero_le _, rfl, HR.out⟩
      case round =>
        obtain ⟨k2, hk2, rfl, hR⟩ := hrel
        have HR := hid hR
        have hlf : (freshL was (now.take k2)).length ≤ 4096 := filter_len _ _ (by rw [List.length_take]; omega)
        have hlt2 : (turnedL was (now.take k2)).length ≤ 4096 := filter_len _ _ (by rw [List.length_take]; omega)
        by_cases hlt3 : k2 < L2
        · obtain ⟨x, hx⟩ := get_lt HL2.out hlt3
          obtain ⟨b, o, rfl, hb, c0, c1, c2, c3, c4, c5, c6, c7, c8⟩ := (HT2.out.below hR.old).ev hx
          have HX := hid hx
          have hk1 : (k2 : Int) < (L2 : Int) := by omega
          have hk0 : (0 : Int) ≤ (k2 : Int) := by omega
          have HS := hid (fresh_step (was := was) hx)
          have HS2 := hid (turned_step (was := was) hx)
          generalize freshL was (now.take k2) = lf at HR hR HS hlf
          generalize turnedL was (now.take k2) = lt at HR hR HS2 hlt2
          clear hx c4 c5 c6 c7 c8
          cases hE : getK was x.key with
          | none =>
            have HP := hid (rat_no _ was x.key _ (HU.out.below hR.old) hE)
            rw [hE] at HS HS2
            simp only [Option.isNone_none, if_true] at HS
            simp only [Option.isSome_none, Bool.false_and, Bool.false_eq_true, if_false] at HS2
            clear hR hE
            go_wp2_with (first
              | (go_at_call 43; ((with_reducible refine HP.out.mono ?_); rintro e w1 ⟨rfl, g1⟩; have HR1 := hid (HR.out.below g1.below); obtain ⟨_, d0, d1, d2, d3, d4, d5, d6, d7, d8⟩ := (HT2.out.below HR1.out.old).ev2 HX.out))
              | (at_builtin; refine app_evm _ rfl (.tmp 53) (.tmp 58) rfl w.heap.size _ _ rfl HR1.out.of w HR1.out.old (Nat.le_refl _) x rfl hlf ?_; intro v' w2 hM; have HR2 := hid (HR1.out.appF hM); clear hM))
            go_roundw
            case rel => exact ⟨k2 + 1, by omega, by go_num, by rw [HS.out, HS2.out]; exact HR2.out⟩
            case measure => simp [intOf]; omega
          | some y =>
            have HP := hid (rat_yes _ was x.key y _ (HU.out.below hR.old) hE)
            rw [hE] at HS HS2
            simp only [Option.isNone_some, Bool.false_eq_true, if_false] at HS
            have hgE := guardE
            have hne := neqE y x
            have HLa := HL
            by_cases hyx : y = x
            · have HS3 : Hid (turnedL was (now.take (k2 + 1)) = lt) := hid (by rw [HS2.out]; simp [hyx])
              rw [decide_eq_true hyx] at hne
              clear HS2 hyx hR hE
              go_wp2_with (go_at_call 43; ((with_reducible refine HP.out.mono ?_); rintro e w1 ⟨i, rfl, hi, g1⟩; have HR1 := hid (HR.out.below g1.below); obtain ⟨_, d0, d1, d2, d3, d4, d5, d6, d7, d8⟩ := (HT2.out.below HR1.out.old).ev2 HX.out; obtain ⟨bu, ou, rfl, _, q0, q1, q2, q3, q4, q5, q6, q7, q8⟩ := (HT.out.below HR1.out.old).ev hi; have hiL : i < L := by { have := (List.getElem?_eq_some_iff.1 hi).1; have := HLa.out; omega }; have hi0 : ¬ ((i : Int) < 0) := (by omega); have hi1 : decide ((i : Int) < 0) = false := decide_eq_false hi0; have hi2 : (i : Int) < (L : Int) := (by omega); have hi3 : (0 : Int) ≤ (i : Int) := (by omega); clear hi))
              go_quiet (fail)
              go_wp2_with fail
              go_roundw
              case rel => exact ⟨k2 + 1, by omega, by go_num, by rw [HS.out, HS3.out]; exact HR1.out.below (bdn (br _) _)⟩
              case measure => simp [intOf]; omega
            · have HS3 : Hid (turnedL was (now.take (k2 + 1)) = lt ++ [x]) := hid (by rw [HS2.out]; simp [hyx])
              rw [decide_eq_false hyx] at hne
              clear HS2 hyx hR hE
              go_wp2_with (go_at_call 43; ((with_reducible refine HP.out.mono ?_); rintro e w1 ⟨i, rfl, hi, g1⟩; have HR1 := hid (HR.out.below g1.below); obtain ⟨_, d0, d1, d2, d3, d4, d5, d6, d7, d8⟩ := (HT2.out.below HR1.out.old).ev2 HX.out; obtain ⟨bu, ou, rfl, _, q0, q1, q2, q3, q4, q5, q6, q7, q8⟩ := (HT.out.below HR1.out.old).ev hi; have hiL : i < L := by { have := (List.getElem?_eq_some_iff.1 hi).1; have := HLa.out; omega }; have hi0 : ¬ ((i : Int) < 0) := (by omega); have hi1 : decide ((i : Int) < 0) = false := decide_eq_false hi0; have hi2 : (i : Int) < (L : Int) := (by omega); have hi3 : (0 : Int) ≤ (i : Int) := (by omega); clear hi))
              go_quiet (fail)
              have HR3 := hid (HR1.out.below (bdn (br _) nq))
              go_wp2_with (at_builtin; refine app_evm _ rfl (.tmp 69) (.tmp 74) rfl w.heap.size _ _ rfl HR3.out.ot w HR3.out.old (Nat.le_refl _) x rfl hlt2 ?_; intro v' w2 hM; have HR2 := hid (HR3.out.appT hM); clear hM)
              go_roundw
              case rel => exact ⟨k2 + 1, by omega, by go_num, by rw [HS.out, HS3.out]; exact HR2.out⟩
              case measure => simp [intOf]; omega
        · have htk : now.take k2 = now := List.take_of_length_le (by have := HL2.out; omega)
          have hd0 : decide ((k2 : Int) < (L2 : Int)) = false := by simp; omega
          rw [htk] at HR
          clear htk hR
          go_wp2_with fail
          go_returns
          exact ⟨_, _, _, rfl, by rw [HLG.out]; exact owns_sl (enc := kcs) (k := 4) (fun _ => rfl) HR.out.og, owns_sl (enc := ecs) (k := 9) (fun _ => rfl) HR.out.of, owns_sl (enc := ecs) (k := 9) (fun _ => rfl) HR.out.ot, HR.out.old⟩

end Go.Proofs.Ytfkbkfaiplhehaa.Ev
