/- What Send and Take of the document's cable (promptbookref08) return and leave. -/
import Derived.Test.YtfifoikphhjomaaCbRef
namespace Go.Proofs.Ytfifoikphhjomaa.Cb
open Go.RowKit Go.Proofs.Ytfifoikphhjomaa.Rg
set_option linter.unusedVariables false
set_option linter.unusedSimpArgs false

/-- an append as one step of a region that draws its order: a list of the call's own grows by another list (nil too). -/
theorem step_append_row {P : Program} (w : World) {ops : Array Oper} {o : Oper} {a : Act} {K : Act → World → Prop} {Q : Exit → Act → World → Prop} {E : Prop} (hgd : o.guard = none) (s x : Operand) (t : TypeId)
    (ho : o.op = .call { callee := .builtin .append, args := #[s, x], argTypes := #[t, t] })
    (base base' : Nat) (e : TypeId) (i : TypeInfo) (z : Value) (size bytes : Nat) (ht : P.underlying t = some (.slice e)) (hi : P.info? e = some i) (hz : i.zero = some z)
    (hsize : i.size = size) (hby : i.bytes = bytes) (hzs : z.cells.size = size) (hsz : 0 < size)
    (v : Value) (n : Nat) (xs : List Value) (hs : a.eval s = v) (hown : w.ownsRow base e size v n xs)
    (ao : Option Addr) (m c : Nat) (news : List Value) (hx : a.eval x = .slice ao m c) (hsrc : w.ownsRow base' e size (.slice ao m c) m news) (h1 : ∀ u ∈ news, u.oneCell' = true)
    (h63 : n + m ≤ maxLen) (hbytes : (n + m) * bytes ≤ 140737488355328) (hbase : base ≤ w.heap.size) (k : Nat) (hk : n + m = k) (ys : List Value) (hy : xs ++ news = ys)
    (h : ∀ ao' cap' w', w'.ownsRow base e size (.slice ao' k cap') k ys → w.grownBy w' v.ownBlock → K (a.put o.dst (.slice ao' k cap')) w') :
    if Region.wanted o (yielded ops a.tmps) = true then Oper.wp P o a w K Q else E := by
  have hw : Region.wanted o (yielded ops a.tmps) = true := by simp [Region.wanted, hgd]
  rw [if_pos hw]
  obtain ⟨v', w', hr, h2, h3, _⟩ := run_append_row (P := P) w base base' t o.type e i z size bytes ht hi hz hsize hby hzs hsz v n xs hown ao m c news hsrc h1 h63 hbytes hbase
  obtain ⟨ao', cap', rfl⟩ := row_form h2
  subst hk
  subst hy
  unfold Oper.wp
  simp [execOp, ho, resolve, invoke, builtin, hs, hx, hr, Result.andThen]
  exact h ao' cap' w' h2 h3

/-- a list grew in new memory. -/
theorem below_grown {b : Nat} {w V W w1 : World} {row : Option Nat} (hB : Below b w V) (hg : W.grownBy w1 row) (hs : V.heap.size ≤ W.heap.size) (hh : ∀ k, k < V.heap.size → W.heap[k]? = V.heap[k]?) (ho : W.os = V.os) (ht : W.tape = V.tape) (hp : W.output = V.output) (hb : b ≤ V.heap.size) (hr : ∀ k, row = some k → b ≤ k) : Below b w w1 := by
  have h0 : Below b V W := ⟨ho, ht, hp, hs, fun k hk => hh k (by omega)⟩
  exact (hB.trans h0).grown hg (Nat.le_trans hb hs) hr

theorem rsend_bad (dd : Int) (s : ByteArray) (m : Nat) (w : World) (h : inB 2 dd = false) :
    Calls Try.prog 18 #[.pointer (some ⟨m, 0, none⟩), .int .i64 dd, .string s] w fun e w' => e = .returned (.tuple #[.bool false, .int .i64 1]) ∧ w = w' := by
  rcases in_not h with h0 | h0
  · clear h
    go_enter Try.func18, Try.ntmps18
    go_wp2_with fail
    go_ret2
    exact ⟨rfl, rfl⟩
  · clear h
    have h1 : (1 : Int) < dd := by omega
    have h2 : ¬ dd < 0 := by omega
    clear h0
    go_enter Try.func18, Try.ntmps18
    go_wp2_with fail
    go_ret2
    exact ⟨rfl, rfl⟩

theorem rsend_empty (t : Nat) (s : ByteArray) (m : Nat) (w : World) (h : t < 2) (h0 : s.size = 0) :
    Calls Try.prog 18 #[.pointer (some ⟨m, 0, none⟩), .int .i64 t, .string s] w fun e w' => e = .returned (.tuple #[.bool false, .int .i64 1]) ∧ w = w' := by
  have i0 : ¬ (t : Int) < 0 := by omega
  have i1 : ¬ (1 : Int) < (t : Int) := by omega
  have hz : ((s.size : Int) == 0) = true := by rw [beq_iff_eq]; omega
  clear h0
  go_enter Try.func18, Try.ntmps18
  go_wp2_with fail
  go_ret2
  exact ⟨rfl, rfl⟩

theorem rsend_long (t : Nat) (s : ByteArray) (m : Nat) (w : World) (h : t < 2) (h0 : 256 < s.size) :
    Calls Try.prog 18 #[.pointer (some ⟨m, 0, none⟩), .int .i64 t, .string s] w fun e w' => e = .returned (.tuple #[.bool false, .int .i64 5]) ∧ w = w' := by
  have i0 : ¬ (t : Int) < 0 := by omega
  have i1 : ¬ (1 : Int) < (t : Int) := by omega
  have hz : ((s.size : Int) == 0) = false := by rw [beq_eq_false_iff_ne]; omega
  have hy : decide (256 < (s.size : Int)) = true := by simp; omega
  clear h0
  go_enter Try.func18, Try.ntmps18
  go_wp2_with fail
  go_ret2
  exact ⟨rfl, rfl⟩

theorem rsend_full (t : Nat) (s : ByteArray) (w : World) (n₀ size m : Nat) (aos : Nat → Option Addr) (caps : Nat → Nat) (st : St) (h : Mir w n₀ size m aos caps st) (ht : t < 2) (h0 : s.size ≠ 0) (h1 : s.size ≤ 256) (hl : (st.L t).length = size) (hlost : st.lost ≤ 1000000) :
    Calls Try.prog 18 #[.pointer (some ⟨m, 0, none⟩), .int .i64 t, .string s] w fun e w' => e = .returned (.tuple #[.bool false, .int .i64 0]) ∧ LeftM n₀ size m aos ⟨st.L, st.lost + 1⟩ w w' := by
  have i0 : ¬ (t : Int) < 0 := by omega
  have i1 : ¬ (1 : Int) < (t : Int) := by omega
  have j0 : (0 : Int) ≤ (t : Int) := by omega
  have j1 : (t : Int) < 2 := by omega
  have hz : ((s.size : Int) == 0) = false := by rw [beq_eq_false_iff_ne]; omega
  have hy : decide (256 < (s.size : Int)) = false := by simp; omega
  have c0 := h.cell0
  have c1 := h.cell ht
  have c3 := h.cell3
  have f3 := h.frozen 3
  have he : (((st.L t).length : Int) == (size : Int)) = true := by rw [beq_iff_eq]; omega
  have HM := hid h
  clear h h0 h1 hl
  go_enter Try.func18, Try.ntmps18
  go_upto_region 5 with (fail)
  go_quiet (fail)
  go_wp2_with fail
  go_ret2
  exact ⟨rfl, ⟨⟨aos, caps, (HM.out.drewN _).count (st.lost + 1), Nears.refl _ _⟩, (Keeps.drewN (fun i => i = m) w _).setCell (p := ⟨m, 3, none⟩) (fun _ => rfl) _⟩⟩

set_option maxHeartbeats 1600000 in
theorem rsend_room (t : Nat) (s : ByteArray) (w : World) (n₀ size m : Nat) (aos : Nat → Option Addr) (caps : Nat → Nat) (st : St) (h : Mir w n₀ size m aos caps st) (ht : t < 2) (h0 : s.size ≠ 0) (h1 : s.size ≤ 256) (hs : size ≤ 4096) (hl : (st.L t).length < size) (hn : n₀ ≤ w.heap.size) :
    Calls Try.prog 18 #[.pointer (some ⟨m, 0, none⟩), .int .i64 t, .string s] w fun e w' => e = .returned (.tuple #[.bool true, .int .i64 0]) ∧ LeftM n₀ size m aos ⟨upd st.L t (st.L t ++ [s]), st.lost⟩ w w' := by
  have i0 : ¬ (t : Int) < 0 := by omega
  have i1 : ¬ (1 : Int) < (t : Int) := by omega
  have j0 : (0 : Int) ≤ (t : Int) := by omega
  have j1 : (t : Int) < 2 := by omega
  have hz : ((s.size : Int) == 0) = false := by rw [beq_eq_false_iff_ne]; omega
  have hy : decide (256 < (s.size : Int)) = false := by simp; omega
  have he : (((st.L t).length : Int) == (size : Int)) = false := by rw [beq_eq_false_iff_ne]; omega
  obtain ⟨y0, hi, hz0, hz1, hz2⟩ := info_parts info_str
  have hb := h.lt
  have c0 := h.cell0
  have c1 := h.cell ht
  have HM := hid h
  clear h h0 h1
  go_enter Try.func18, Try.ntmps18
  go_upto_region 5 with (fail)
  go_quiet (fail)
  go_upto_region 8 with (fail)
  have HV := HM.out.drewN nq
  have hB0 : Below w.heap.size w (w.drewN nq) := ⟨rfl, rfl, rfl, Nat.le_refl _, fun _ _ => rfl⟩
  have hV0 : (w.drewN nq).heap.size = w.heap.size := rfl
  generalize w.drewN nq = V at HV hB0 hV0 ⊢
  have c4 := HV.cell ht
  have hrow := hid (HV.row t ht)
  have hm0 := hid (World.ownsRow_made (e := 9) (size := 1) V #[] 0 (Nat.le_of_eq hV0.symm) (by decide) rfl)
  have hm1 : Hid (((V.alloc (.cells #[.string s] 9)).alloc (.cells #[] 9)).ownsRow w.heap.size 9 1 (.slice (some ⟨V.heap.size + 1, 0, none⟩) 0 0) 0 []) := by
    have h3 := World.ownsRow_made (e := 9) (size := 1) (V.alloc (.cells #[.string s] 9)) #[] 0 (show w.heap.size ≤ (V.alloc (.cells #[.string s] 9)).heap.size by simp; omega) (by decide) rfl
    rw [World.size_alloc] at h3
    exact h3
  have o1 := hid (strs_one (st.L t))
  have HV0 := hid hV0
  have hbV : m < V.heap.size := by omega
  have ca : ∀ o, (V.alloc o).cell? ⟨m, 1 + t, none⟩ = some (.slice (aos t) (st.L t).length (caps t)) := fun o => (World.cell?_alloc_past o m (1 + t) hbV).trans c4
  have ca2 : ∀ o o', ((V.alloc o).alloc o').cell? ⟨m, 1 + t, none⟩ = some (.slice (aos t) (st.L t).length (caps t)) := fun o o' => (World.cell?_alloc_past o' m (1 + t) (by simp; omega)).trans (ca o)
  have HA : Hid (∀ w1 W : World, W.grownBy w1 (some V.heap.size) → W.heap = (V.alloc (.cells #[] 9)).heap → W.os = V.os → W.tape = V.tape → W.output = V.output → Below w.heap.size w w1) := by
    intro w1 W hg hW ho ht hp
    exact below_grown hB0 hg (by rw [hW]; simp) (fun k hk => by rw [hW]; exact Below.heap_alloc V _ k hk) ho ht hp (by omega) (fun k hk => by cases hk; omega)
  have HX : Hid (∀ w1 W : World, W.grownBy w1 (some V.heap.size) → W.heap = ((V.alloc (.cells #[] 9)).alloc (.cells #[.string s] 9)).heap → W.os = V.os → W.tape = V.tape → W.output = V.output → Below w.heap.size w w1 ∧ ∀ j u, [Value.string s][j]? = some u → w1.cell? ((⟨V.heap.size + 1, 0, none⟩ : Addr).add j) = some u) := by
    intro w1 W hg hW ho ht hp
    refine ⟨below_grown hB0 hg (by rw [hW]; simp; omega) (fun k hk => by rw [hW]; exact (Below.heap_alloc (V.alloc _) _ k (by simp; omega)).trans (Below.heap_alloc V _ k hk)) ho ht hp (by omega) (fun k hk => by cases hk; omega), fun j u hj => ?_⟩
    have e1 : w1.heap[V.heap.size + 1]? = W.heap[V.heap.size + 1]? := hg.block _ (by rw [hW]; simp) (by simp)
    have e2 := cell_one_new (V.alloc (.cells #[] 9)) (.string s) 9 j u hj
    rw [show (V.alloc (.cells #[] 9)).heap.size = V.heap.size + 1 by simp] at e2
    rw [← e2]
    rw [Addr.add_lit]
    exact World.cell?_of_block (a := ⟨V.heap.size + 1, 0 + j, none⟩) (e1.trans (by rw [hW]))
  have HY : Hid (∀ w1 W : World, W.grownBy w1 (some (V.heap.size + 1)) → W.heap = ((V.alloc (.cells #[.string s] 9)).alloc (.cells #[] 9)).heap → W.os = V.os → W.tape = V.tape → W.output = V.output → Below w.heap.size w w1 ∧ ∀ j u, [Value.string s][j]? = some u → w1.cell? ((⟨V.heap.size, 0, none⟩ : Addr).add j) = some u) := by
    intro w1 W hg hW ho ht hp
    refine ⟨below_grown hB0 hg (by rw [hW]; simp; omega) (fun k hk => by rw [hW]; exact (Below.heap_alloc (V.alloc _) _ k (by simp; omega)).trans (Below.heap_alloc V _ k hk)) ho ht hp (by omega) (fun k hk => by cases hk; omega), fun j u hj => ?_⟩
    have e1 : w1.heap[V.heap.size]? = W.heap[V.heap.size]? := hg.block _ (by rw [hW]; simp; omega) (by simp)
    have e2 := cell_one_new V (.string s) 9 j u hj
    rw [← e2]
    rw [Addr.add_lit]
    exact World.cell?_of_block (a := ⟨V.heap.size, 0 + j, none⟩) (e1.trans (by rw [hW]; exact Below.heap_alloc _ _ _ (by simp)))
  have HC : Hid (∀ w2 : World, Below w.heap.size w w2 → w2.cell? ⟨m, 1 + t, none⟩ = some (.slice (aos t) (st.L t).length (caps t)) ∧ w2.frozen? ⟨m, 1 + t, none⟩ = false) := fun w2 hB2 => ⟨(HM.out.old hB2).cell ht, (HM.out.old hB2).frozen _⟩
  have hl1 : (st.L t).length + 1 ≤ 4096 := by omega
  clear c0 c1 hV0
  go_region_law (first
    | (refine step_append_row _ rfl (.tmp 44) (.tmp 50) 29 rfl w.heap.size n₀ 9 y0 (.string ⟨#[]⟩) 1 16 Try.underlying29 hi hz0 hz1 hz2 rfl (by decide) (.slice (some ⟨V.heap.size, 0, none⟩) 0 0) 0 [] (by simp [Act.eval, Act.put]) (by exact row_heap rfl hm0.out) (aos t) (st.L t).length (caps t) (strs (st.L t)) (by simp [Act.eval, Act.put]) (by exact row_heap rfl (hrow.out.alloc (.cells #[] 9))) o1.out (by unfold maxLen; omega) (by omega) (by have := HV0.out; simp; omega) (st.L t).length (Nat.zero_add _) (strs (st.L t)) (List.nil_append _) ?_; intro ao1 cap1 w1 hown1 hg1; have hB1 := HA.out w1 _ hg1 rfl rfl rfl rfl)
    | (refine step_append_row _ rfl (.tmp 44) (.tmp 50) 29 rfl w.heap.size n₀ 9 y0 (.string ⟨#[]⟩) 1 16 Try.underlying29 hi hz0 hz1 hz2 rfl (by decide) (.slice (some ⟨V.heap.size, 0, none⟩) 0 0) 0 [] (by simp [Act.eval, Act.put]) (by exact row_heap rfl (hm0.out.alloc (.cells #[.string s] 9))) (aos t) (st.L t).length (caps t) (strs (st.L t)) (by simp [Act.eval, Act.put]) (by exact row_heap rfl ((hrow.out.alloc (.cells #[] 9)).alloc (.cells #[.string s] 9))) o1.out (by unfold maxLen; omega) (by omega) (by have := HV0.out; simp; omega) (st.L t).length (Nat.zero_add _) (strs (st.L t)) (List.nil_append _) ?_; intro ao1 cap1 w1 hown1 hg1; obtain ⟨hB1, hx1⟩ := HX.out w1 _ hg1 rfl rfl rfl rfl)
    | (refine step_append_row _ rfl (.tmp 44) (.tmp 50) 29 rfl w.heap.size n₀ 9 y0 (.string ⟨#[]⟩) 1 16 Try.underlying29 hi hz0 hz1 hz2 rfl (by decide) (.slice (some ⟨V.heap.size + 1, 0, none⟩) 0 0) 0 [] (by simp [Act.eval, Act.put]) (by exact row_heap rfl hm1.out) (aos t) (st.L t).length (caps t) (strs (st.L t)) (by simp [Act.eval, Act.put]) (by exact row_heap rfl ((hrow.out.alloc (.cells #[.string s] 9)).alloc (.cells #[] 9))) o1.out (by unfold maxLen; omega) (by omega) (by have := HV0.out; simp; omega) (st.L t).length (Nat.zero_add _) (strs (st.L t)) (List.nil_append _) ?_; intro ao1 cap1 w1 hown1 hg1; obtain ⟨hB1, hx1⟩ := HY.out w1 _ hg1 rfl rfl rfl rfl)
    | (refine step_append_at _ rfl (.tmp 51) (.tmp 53) 29 rfl w.heap.size 9 y0 (.string ⟨#[]⟩) 1 16 Try.underlying29 hi hz0 hz1 hz2 rfl (by decide) (.slice ao1 (st.L t).length cap1) (st.L t).length (strs (st.L t)) (by simp [Act.eval, Act.put]) (by exact row_heap rfl (hown1.alloc (.cells #[.string s] 9))) ⟨w1.heap.size, 0, none⟩ 1 1 [.string s] (by simp [Act.eval, Act.put]) rfl (by exact cell_one_new w1 (.string s) 9) (by simp [Value.oneCell']) (by unfold maxLen; omega) (by omega) (by have := hB1.size; simp; omega) ((st.L t).length + 1) rfl (strs (st.L t) ++ [.string s]) rfl ?_; intro ao2 cap2 w2 hown2 hg2; have hB2 : Below w.heap.size w w2 := (hB1.alloc hB1.size (.cells #[.string s] 9)).grown hg2 (by have := hB1.size; simp; omega) (fun i hi => (hown1.lt i hi).1); obtain ⟨c2, f2⟩ := HC.out w2 hB2)
    | (refine step_append_at _ rfl (.tmp 51) (.tmp 53) 29 rfl w.heap.size 9 y0 (.string ⟨#[]⟩) 1 16 Try.underlying29 hi hz0 hz1 hz2 rfl (by decide) (.slice ao1 (st.L t).length cap1) (st.L t).length (strs (st.L t)) (by simp [Act.eval, Act.put]) (by exact row_heap rfl hown1) _ 1 1 [.string s] (by simp [Act.eval, Act.put]; first | rfl | skip) rfl (by exact hx1) (by simp [Value.oneCell']) (by unfold maxLen; omega) (by omega) (by have := hB1.size; omega) ((st.L t).length + 1) rfl (strs (st.L t) ++ [.string s]) rfl ?_; intro ao2 cap2 w2 hown2 hg2; have hB2 : Below w.heap.size w w2 := hB1.grown hg2 hB1.size (fun i hi => (hown1.lt i hi).1); obtain ⟨c2, f2⟩ := HC.out w2 hB2))
  all_goals go_wp2_with fail
  all_goals go_ret2
  all_goals exact ⟨rfl, LeftM.stored HM.out ht hn hB2 hown2 (by simp) (by rw [strs_snoc])⟩

end Go.Proofs.Ytfifoikphhjomaa.Cb
