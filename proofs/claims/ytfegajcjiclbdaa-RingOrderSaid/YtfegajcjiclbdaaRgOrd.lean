/- A ring and two lists beside it: what Push, Pop and an append leave of all three; lists of numbers that come in. -/
import Derived.Test.YtfegajcjiclbdaaRgTake
import Derived.Test.YtfegajcjiclbdaaRgList
import Derived.Test.YtfegajcjiclbdaaRgInts
import Derived.Test.YtfegajcjiclbdaaRgLaw1
import Derived.Test.YtfegajcjiclbdaaRgBoth
import Derived.ProofKit
import Derived.OpenShut
namespace Go.Proofs.Ytfegajcjiclbdaa.Rg
open Go.RowKit Go.ChangeShapes Go.WideShapes Go.ChangeAt
set_option linter.unusedVariables false

structure Ord (w₀ w : World) (b size : Nat) (vi vo : Value) (s lin lout : List Int) : Prop where
  ring : ∃ ao cap, Ring w w₀.heap.size 60 b size ao cap s ∧ ∀ i, Foot b ao i → vi.ownBlock ≠ some i ∧ vo.ownBlock ≠ some i
  rin : w.ownsRow w₀.heap.size 3 1 vi lin.length (ints lin)
  rout : w.ownsRow w₀.heap.size 3 1 vo lout.length (ints lout)
  ne : ∀ i, vi.ownBlock = some i → vo.ownBlock ≠ some i
  old : Below w₀.heap.size w₀ w

section
variable {w₀ w w' : World} {b size : Nat} {vi vo : Value} {s lin lout : List Int}

theorem Ord.step (h : Ord w₀ w b size vi vo s lin lout) {ao : Option Addr} {cap : Nat} (hr : Ring w w₀.heap.size 60 b size ao cap s) (ha : ∀ i, Foot b ao i → vi.ownBlock ≠ some i ∧ vo.ownBlock ≠ some i)
    {s' : List Int} {ao1 : Option Addr} {cap1 : Nat} (h1 : Ring w' w₀.heap.size 60 b size ao1 cap1 s') (hn : Near ao ao1 w.heap.size) (hk : Keeps (Foot b ao) w w') : Ord w₀ w' b size vi vo s' lin lout := by
  refine ⟨⟨ao1, cap1, h1, ?_⟩, hk.row h.rin (fun k e f => (ha k f).1 e), hk.row h.rout (fun k e f => (ha k f).2 e), h.ne, h.old.trans (hk.below h.old.size hr.footGe)⟩
  rintro i (rfl | ⟨a, haa, rfl⟩)
  · exact ha i (.inl rfl)
  · rcases hn a haa with ⟨c, hc, e⟩ | h2
    · exact ha _ (.inr ⟨c, hc, e.symm⟩)
    · exact ⟨fun e => by have := (h.rin.lt _ e).2; omega, fun e => by have := (h.rout.lt _ e).2; omega⟩

theorem Ord.keep (h : Ord w₀ w b size vi vo s lin lout) (hb : Below w.heap.size w w') : Ord w₀ w' b size vi vo s lin lout := by
  obtain ⟨ao, cap, hr, ha⟩ := h.ring
  exact ⟨⟨ao, cap, hr.old hb, ha⟩, (Keeps.ofOld hb (fun _ => False)).row h.rin (fun _ _ e => e), (Keeps.ofOld hb (fun _ => False)).row h.rout (fun _ _ e => e), h.ne, h.old.trans (hb.mono h.old.size)⟩

/-- one of the two lists grows by an append. -/
theorem Ord.toIn (h : Ord w₀ w b size vi vo s lin lout) {o : Obj} {v' : Value} {l' : List Int} (hown : w'.ownsRow w₀.heap.size 3 1 v' l'.length (ints l')) (hg : (w.alloc o).grownBy w' vi.ownBlock) (hat : v'.ownBlock = vi.ownBlock ∨ v'.ownBlock = some (w.alloc o).heap.size) :
    Ord w₀ w' b size v' vo s l' lout := by
  obtain ⟨ao, cap, hr, ha⟩ := h.ring
  have hk : Keeps (fun k => vi.ownBlock = some k) w w' := ((Keeps.refl _ w).alloc o).grown hg (fun k e _ => e)
  have hnew : (w.alloc o).heap.size = w.heap.size + 1 := by simp
  refine ⟨⟨ao, cap, hr.keeps hk (fun i f e => (ha i f).1 e), fun i f => ⟨?_, (ha i f).2⟩⟩, hown, hk.row h.rout (fun k e f => h.ne k f e), ?_, h.old.trans (hk.below h.old.size (fun k e => (h.rin.lt k e).1))⟩
  · rcases hat with e | e
    · rw [e]; exact (ha i f).1
    · intro e2
      have := hr.footLt i f
      rw [e] at e2; simp at e2; omega
  · intro i e
    rcases hat with e1 | e1
    · exact h.ne i (e1.symm.trans e)
    · intro e2
      have := (h.rout.lt i e2).2
      rw [e1] at e; simp at e; omega

theorem Ord.toOut (h : Ord w₀ w b size vi vo s lin lout) {o : Obj} {v' : Value} {l' : List Int} (hown : w'.ownsRow w₀.heap.size 3 1 v' l'.length (ints l')) (hg : (w.alloc o).grownBy w' vo.ownBlock) (hat : v'.ownBlock = vo.ownBlock ∨ v'.ownBlock = some (w.alloc o).heap.size) :
    Ord w₀ w' b size vi v' s lin l' := by
  obtain ⟨ao, cap, hr, ha⟩ := h.ring
  have hk : Keeps (fun k => vo.ownBlock = some k) w w' := ((Keeps.refl _ w).alloc o).grown hg (fun k e _ => e)
  have hnew : (w.alloc o).heap.size = w.heap.size + 1 := by simp
  refine ⟨⟨ao, cap, hr.keeps hk (fun i f e => (ha i f).2 e), fun i f => ⟨(ha i f).1, ?_⟩⟩, hk.row h.rin (fun k e f => h.ne k e f), hown, ?_, h.old.trans (hk.below h.old.size (fun k e => (h.rout.lt k e).1))⟩
  · rcases hat with e | e
    · rw [e]; exact (ha i f).2
    · intro e2
      have := hr.footLt i f
      rw [e] at e2; simp at e2; omega
  · intro i e
    rcases hat with e1 | e1
    · rw [e1]; exact h.ne i e
    · intro e2
      have := (h.rin.lt i e).2
      rw [e1] at e2; simp at e2; omega
end

/-- 'append(s, x...)' behind a guard that holds. -/
theorem wpList_append_rowg {P : Program} (w : World) {ops : Array Oper} {rest : List Oper} {o : Oper} {a : Act} {Q : Exit → Act → World → Prop} (hgd : Region.wanted o (yielded ops a.tmps) = true) (s x : Operand) (t : TypeId)
    (ho : o.op = .call { callee := .builtin .append, args := #[s, x], argTypes := #[t, t] })
    (base base' : Nat) (e : TypeId) (i : TypeInfo) (z : Value) (size bytes : Nat) (ht : P.underlying t = some (.slice e)) (hi : P.info? e = some i) (hz : i.zero = some z)
    (hsize : i.size = size) (hby : i.bytes = bytes) (hzs : z.cells.size = size) (hsz : 0 < size)
    (v : Value) (n : Nat) (xs : List Value) (hs : a.eval s = v) (hown : w.ownsRow base e size v n xs)
    (ao : Option Addr) (m c : Nat) (news : List Value) (hx : a.eval x = .slice ao m c) (hsrc : w.ownsRow base' e size (.slice ao m c) m news) (h1 : ∀ u ∈ news, u.oneCell' = true)
    (h63 : n + m ≤ maxLen) (hbytes : (n + m) * bytes ≤ 140737488355328) (hbase : base ≤ w.heap.size)
    (h : ∀ v' w', w'.ownsRow base e size v' (n + m) (xs ++ news) → w.grownBy w' v.ownBlock → (v'.ownBlock = v.ownBlock ∨ v'.ownBlock = some w.heap.size) → wpList P ops Q rest (a.put o.dst v') w') :
    wpList P ops Q (o :: rest) a w := by
  refine wpList_step fun K hK => ?_
  rw [if_pos hgd]
  obtain ⟨v', w', hr, h2, h3, h4⟩ := run_append_row (P := P) w base base' t o.type e i z size bytes ht hi hz hsize hby hzs hsz v n xs hown ao m c news hsrc h1 h63 hbytes hbase
  unfold Oper.wp execOp
  simp only [ho, resolve, invoke, builtin, Sem.run_bind, Sem.run_pure, Result.andThen_ok, List.map_toArray, List.map_cons, List.map_nil, hs, hx, hr]
  exact hK _ _ (h v' w' h2 h3 h4)

theorem push_ord (w₀ w : World) (b size : Nat) (vi vo : Value) (s lin lout : List Int) (x : Int) (h : Ord w₀ w b size vi vo s lin lout) (hs : size ≤ 4096) (hl : s.length ≤ size) :
    Calls Try.prog 9 #[.pointer (some ⟨b, 0, none⟩), .int .i64 x] w fun e w' => e = .returned (.int .i64 (pushE size s)) ∧ Ord w₀ w' b size vi vo (pushL size s x) lin lout := by
  obtain ⟨ao, cap, hr, ha⟩ := h.ring
  by_cases hf : s.length < size
  · refine (push_c x _ b size cap ao s w hr hs hf h.old.size).mono ?_
    rintro e w' ⟨rfl, ao1, cap1, h1, hn, hk⟩
    rw [pushE, if_pos hf, pushL, if_pos hf]
    exact ⟨rfl, h.step hr ha h1 hn hk⟩
  · refine (push_full x _ b size cap ao s w hr hs (by omega)).mono ?_
    rintro e w' ⟨rfl, q, rfl⟩
    rw [pushE, if_neg hf, pushL, if_neg hf]
    exact ⟨rfl, h.keep ⟨rfl, rfl, rfl, Nat.le_refl _, fun _ _ => rfl⟩⟩

theorem pop_ord (w₀ w : World) (b size : Nat) (vi vo : Value) (s lin lout : List Int) (h : Ord w₀ w b size vi vo s lin lout) (hl : s.length ≤ 4096) :
    Calls Try.prog 18 #[.pointer (some ⟨b, 0, none⟩)] w fun e w' => e = .returned (.tuple #[.int .i64 (atI s 0), .bool (atB s 0)]) ∧ Ord w₀ w' b size vi vo (takeL s 0) lin lout := by
  obtain ⟨ao, cap, hr, ha⟩ := h.ring
  refine (pop_c _ b size cap ao s w hr hl).mono ?_
  rintro e w' ⟨rfl, ao1, cap1, h1, hn, hk⟩
  exact ⟨rfl, h.step hr ha h1 hn hk⟩

theorem pop_cons (x : Int) (r : List Int) : atI (x :: r) 0 = x ∧ atB (x :: r) 0 = true ∧ takeL (x :: r) 0 = r := by
  have h := at_in (l := x :: r) (k := 0) (by simp)
  have t := takeL_in (l := x :: r) (k := 0) (by simp)
  exact ⟨by simpa using h.2, by simpa using h.1, by simpa using t⟩
theorem pop_empty : atI [] 0 = 0 ∧ atB [] 0 = false ∧ takeL [] 0 = [] := ⟨rfl, rfl, rfl⟩

/-- numbers that came in, in a list. -/
def NumsIn (k : IntKind) (w : World) (ad : Option Addr) (len : Nat) : Prop := ∀ j, j < len → ∃ (c off : Nat) (z : Int), ad = some ⟨c, off, none⟩ ∧ c < w.heap.size ∧ w.cell? ⟨c, off + j, none⟩ = some (.int k z) ∧ (Lit.int k z).wf = true

theorem nums_of {H : Type} {enc : TypeId × Value → H} {P : Program} {W : World} {spare : Nat → Bool} {held : Bool} {t e : TypeId} {k : IntKind} {ao : Option Addr} {len cap : Nat} {d : DataW H} {ps : List MemPlace}
    (ht : P.underlying t = some (.slice e)) (he : P.underlying e = some (.int k)) (hc : P.cellsOf e = 1) (h : DataW.Trod enc P W 0 spare held t (.slice ao len cap) d ps) : NumsIn k W ao len := by
  intro j hj
  obtain ⟨fuel, hf⟩ := h
  rcases open_ints ht he hc hf with ⟨h0, _⟩ | ⟨a, len', cap', zs, h0, _, hl, _, hz, _, hcell, hwf⟩
  · simp [Value.cells] at h0
    omega
  · simp [Value.cells] at h0
    obtain ⟨rfl, rfl, rfl⟩ := h0
    have hlm : len ≤ zs.length := by rw [hz]; split <;> omega
    have hs : a.spot = none := by simpa [Addr.add] using World.cell?_spot (hcell 0 (by omega))
    obtain ⟨c, off, spot⟩ := a
    simp only at hs
    subst hs
    have e0 := hcell j (by omega)
    rw [Addr.add_lit] at e0
    have hg : zs.getD j 0 = zs[j]'(by omega) := by simp [List.getD, List.getElem?_eq_getElem (show j < zs.length by omega)]
    exact ⟨c, off, zs.getD j 0, rfl, World.block_lt_of_cell? W _ e0, e0, hwf _ (by rw [hg]; exact List.getElem_mem _)⟩

end Go.Proofs.Ytfegajcjiclbdaa.Rg
