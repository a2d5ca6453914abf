/- Players, shots and states as numbers; parts of a block, read and stored at once (layer 12, game, as layer 13 takes it). -/
import Derived.Test.YthbncbdnpeglfaaShC
import Derived.Test.YthbncbdnpeglfaaEvWorld
import Derived.Deep.Cut
import Derived.Laws.Rows
import Derived.Laws.Tables
import Derived.Laws.CopyRow
namespace Go.Proofs.Ythbncbdnpeglfaa.Gm
open Go.RowKit Go.Proofs.Ythbncbdnpeglfaa.Fx Go.Proofs.Ythbncbdnpeglfaa.Tg
open Go.Proofs.Ythbncbdnpeglfaa.Ev (At)
open Go.Proofs.Ythbncbdnpeglfaa.Sh (In32 vec box insideB)
set_option linter.unusedVariables false

theorem hid {p : Prop} (h : p) : Hid p := h

/-- a player. -/
structure Pl where
  ax : Int
  ay : Int
  vx : Int
  vy : Int
  fa : Int
  hp : Int
  co : Int
  wi : Int
  dn : Int
  sc : Int
deriving DecidableEq

/-- a shot. -/
structure Bu where
  ax : Int
  ay : Int
  vx : Int
  vy : Int
  ow : Int
  li : Int
deriving DecidableEq

/-- a state. -/
structure St where
  fr : Int
  di : Int
  rd : Int
  lf : Int
  p0 : Pl
  p1 : Pl
  s0 : Bu
  s1 : Bu
  s2 : Bu
  s3 : Bu
  s4 : Bu
  s5 : Bu
deriving DecidableEq

abbrev plC (p : Pl) : List Value := [.int .i32 p.ax, .int .i32 p.ay, .int .i32 p.vx, .int .i32 p.vy, .int .i64 p.fa, .int .i64 p.hp, .int .i64 p.co, .int .i64 p.wi, .int .i64 p.dn, .int .i64 p.sc]

abbrev buC (x : Bu) : List Value := [.int .i32 x.ax, .int .i32 x.ay, .int .i32 x.vx, .int .i32 x.vy, .int .i64 x.ow, .int .i64 x.li]

def stC (s : St) : List Value := [.int .i64 s.fr, .int .u32 s.di, .int .i64 s.rd, .int .i64 s.lf] ++ plC s.p0 ++ plC s.p1 ++ buC s.s0 ++ buC s.s1 ++ buC s.s2 ++ buC s.s3 ++ buC s.s4 ++ buC s.s5

abbrev plV (p : Pl) : Value := .agg #[.int .i32 p.ax, .int .i32 p.ay, .int .i32 p.vx, .int .i32 p.vy, .int .i64 p.fa, .int .i64 p.hp, .int .i64 p.co, .int .i64 p.wi, .int .i64 p.dn, .int .i64 p.sc]

abbrev buV (x : Bu) : Value := .agg #[.int .i32 x.ax, .int .i32 x.ay, .int .i32 x.vx, .int .i32 x.vy, .int .i64 x.ow, .int .i64 x.li]

def stV (s : St) : Value := .agg (stC s).toArray

def zeroP : Pl := ⟨0, 0, 0, 0, 0, 0, 0, 0, 0, 0⟩

def zeroB : Bu := ⟨0, 0, 0, 0, 0, 0⟩

def zeroS : St := ⟨0, 0, 0, 0, zeroP, zeroP, zeroB, zeroB, zeroB, zeroB, zeroB, zeroB⟩

def plS (s : St) (t : Nat) : Pl := if t = 0 then s.p0 else s.p1

def setP (s : St) (t : Nat) (p : Pl) : St := if t = 0 then { s with p0 := p } else { s with p1 := p }

def shS (s : St) : Nat → Bu
  | 0 => s.s0
  | 1 => s.s1
  | 2 => s.s2
  | 3 => s.s3
  | 4 => s.s4
  | _ => s.s5

def setS (s : St) : Nat → Bu → St
  | 0, x => { s with s0 := x }
  | 1, x => { s with s1 := x }
  | 2, x => { s with s2 := x }
  | 3, x => { s with s3 := x }
  | 4, x => { s with s4 := x }
  | _, x => { s with s5 := x }

/-- players as they begin. -/
def fresh0 : Pl := ⟨-2097152, 0, 0, 0, 0, 3, 0, 0, 0, 0⟩

def fresh1 : Pl := ⟨2097152, 0, 0, 0, 32768, 3, 0, 0, 0, 0⟩

/-- the state at its beginning. -/
def beginS (seed : Int) : St := ⟨0, seed, 0, 600, fresh0, fresh1, zeroB, zeroB, zeroB, zeroB, zeroB, zeroB⟩

abbrev pbox : Value := box (-3932160) (-3932160) 3932160 3932160

abbrev abox : Value := box (-4194304) (-4194304) 4194304 4194304

def inP (x y : Int) : Bool := insideB (-3932160) (-3932160) 3932160 3932160 x y

def inA (x y : Int) : Bool := insideB (-4194304) (-4194304) 4194304 4194304 x y

/-- may a player, a shot, a state be. -/
def okP (p : Pl) : Bool := decide (0 ≤ p.fa ∧ p.fa ≤ 65535) && decide (0 ≤ p.hp ∧ p.hp ≤ 3) && decide (0 ≤ p.co ∧ p.co ≤ 8) && decide (0 ≤ p.wi ∧ p.wi ≤ 20) && decide (0 ≤ p.dn ∧ p.dn ≤ 30) && decide (0 ≤ p.sc ∧ p.sc ≤ 2) && inP p.ax p.ay && (decide (0 < p.hp) == decide (p.dn = 0))

def okB (x : Bu) : Bool := decide (x = zeroB) || (decide (1 ≤ x.ow ∧ x.ow ≤ 2) && decide (1 ≤ x.li ∧ x.li ≤ 40) && inA x.ax x.ay)

def okN (s : St) : Bool := decide (0 ≤ s.fr ∧ s.fr ≤ 1073741824) && decide (0 ≤ s.rd ∧ s.rd ≤ 1073741824) && decide (1 ≤ s.lf ∧ s.lf ≤ 600)

def okS (s : St) : Bool := okN s && (okP s.p0 && okP s.p1) && (okB s.s0 && okB s.s1 && okB s.s2 && okB s.s3 && okB s.s4 && okB s.s5)

/-- what the types of a player's, a shot's and a state's fields let be. -/
def tyP (p : Pl) : Prop := In32 p.ax ∧ In32 p.ay ∧ In32 p.vx ∧ In32 p.vy

def tyB (x : Bu) : Prop := In32 x.ax ∧ In32 x.ay ∧ In32 x.vx ∧ In32 x.vy

def tyS (s : St) : Prop := (0 ≤ s.di ∧ s.di < 4294967296) ∧ tyP s.p0 ∧ tyP s.p1 ∧ tyB s.s0 ∧ tyB s.s1 ∧ tyB s.s2 ∧ tyB s.s3 ∧ tyB s.s4 ∧ tyB s.s5

theorem at_set {w : World} {b : Nat} {cs : Array Value} {T : TypeId} (h : At w b cs T) (j : Nat) (v : Value) : At (w.setCell ⟨b, j, none⟩ v) b (cs.setIfInBounds j v) T := heap_setCell_same w b j _ _ v h

theorem run_storeVar_at {P : Program} (w : World) (g o : Nat) (t ty : TypeId) (old : Array Value) (cells : List Value) (hg : w.heap[g]? = some (.cells old t (0, 0))) (hi : (P.info? ty).map (·.size) = some cells.length)
    (ho : o + cells.length ≤ old.size) (h1 : cells.all (·.oneCell') = true) :
    (storeVar ty ⟨g, o, none⟩ (.agg cells.toArray)).run P w = .ok () (w.setRow g (old.toList.take o ++ cells ++ old.toList.drop (o + cells.length)).toArray) := by
  have := run_storeCells_at P g o t cells 0 old w hg (by omega) (fun v hv => List.all_eq_true.1 h1 v hv)
  cases hq : P.info? ty with
  | none => simp [hq] at hi
  | some i =>
    have hs : cells.length = i.size := by simp [hq] at hi; omega
    simp only [Nat.add_zero] at this
    simp [storeVar, sizeOf, typeInfo, hq, Value.cells, hs, this]

theorem wp_store_at {P : Program} {o : Oper} {a : Act} {w : World} {K : Act → World → Prop} {Q : Exit → Act → World → Prop} (ty : TypeId) (x y : Operand) (ho : o.op = .store ty x y)
    (g k : Nat) (cells : List Value) (hx : a.eval x = .pointer (some ⟨g, k, none⟩)) (hy : a.eval y = .agg cells.toArray)
    (t : TypeId) (old : Array Value) (hg : w.heap[g]? = some (.cells old t (0, 0))) (hi : (P.info? ty).map (·.size) = some cells.length)
    (hold : k + cells.length ≤ old.size) (h1 : cells.all (·.oneCell') = true)
    (h : K (a.put o.dst undef) (w.setRow g (old.toList.take k ++ cells ++ old.toList.drop (k + cells.length)).toArray)) : o.wp P a w K Q := by
  unfold Oper.wp execOp
  simp only [ho, hx, hy, Instr.storeAt, Instr.sureAddr, Sem.run_bind, Sem.run_pure, Result.andThen_ok, run_storeVar_at w g k t ty old cells hg hi hold h1]
  exact h

theorem wpList_store_at {P : Program} {ops : Array Oper} {rest : List Oper} {o : Oper} {a : Act} {w : World} {Q : Exit → Act → World → Prop} (hgd : o.guard = none) (ty : TypeId) (x y : Operand) (ho : o.op = .store ty x y)
    (g k : Nat) (cells : List Value) (hx : a.eval x = .pointer (some ⟨g, k, none⟩)) (hy : a.eval y = .agg cells.toArray)
    (t : TypeId) (old : Array Value) (hg : w.heap[g]? = some (.cells old t (0, 0))) (hi : (P.info? ty).map (·.size) = some cells.length)
    (hold : k + cells.length ≤ old.size) (h1 : cells.all (·.oneCell') = true)
    (h : wpList P ops Q rest (a.put o.dst undef) (w.setRow g (old.toList.take k ++ cells ++ old.toList.drop (k + cells.length)).toArray)) : wpList P ops Q (o :: rest) a w :=
  wpList_plain hgd fun _ hK => wp_store_at ty x y ho g k cells hx hy t old hg hi hold h1 (hK _ _ h)

theorem run_loadVar_at {P : Program} (w : World) (g o : Nat) (t ty : TypeId) (cs : Array Value) (vs : List Value) (fr : Nat × Nat) (d : TypeDesc) (hg : w.heap[g]? = some (.cells cs t fr))
    (hu : P.underlying ty = some d) (hd : (match d with | .struct _ | .array _ _ => true | _ => false) = true) (hi : (P.info? ty).map (·.size) = some vs.length) (hv : ∀ j v, vs[j]? = some v → cs[o + j]? = some v) :
    (loadVar ty ⟨g, o, none⟩).run P w = .ok (.agg vs.toArray) w := by
  have hl : (loadCells ⟨g, o, none⟩ vs.length).run P w = .ok vs.toArray w :=
    run_loadCells_list (P := P) w ⟨g, o, none⟩ vs (fun j v h => by
      rw [Addr.add_lit, cell_of_row w g (o + j) cs t fr hg]
      exact hv j v h)
  cases hq : P.info? ty with
  | none => simp [hq] at hi
  | some i =>
    have hs : i.size = vs.length := by simpa [hq] using hi
    have hagg : (isAgg ty).run P w = .ok true w := by
      unfold isAgg
      rw [Sem.run_bind, run_underlying hu w]
      cases d <;> simp_all
    simp [loadVar, hagg, sizeOf, typeInfo, hq, hs, hl]

theorem wp_load_at {P : Program} {o : Oper} {a : Act} {w : World} {K : Act → World → Prop} {Q : Exit → Act → World → Prop} (ty : TypeId) (x : Operand) (ho : o.op = .load ty x)
    (g k : Nat) (hx : a.eval x = .pointer (some ⟨g, k, none⟩)) (t : TypeId) (cs : Array Value) (vs : List Value) (fr : Nat × Nat) (d : TypeDesc) (hg : w.heap[g]? = some (.cells cs t fr))
    (hu : P.underlying ty = some d) (hd : (match d with | .struct _ | .array _ _ => true | _ => false) = true) (hi : (P.info? ty).map (·.size) = some vs.length) (hv : ∀ j v, vs[j]? = some v → cs[k + j]? = some v)
    (h : K (a.put o.dst (.agg vs.toArray)) w) : o.wp P a w K Q := by
  unfold Oper.wp execOp
  simp only [ho, hx, Instr.loadAt, Instr.sureAddr, Sem.run_bind, Sem.run_pure, Result.andThen_ok, run_loadVar_at w g k t ty cs vs fr d hg hu hd hi hv]
  exact h

theorem wpList_load_at {P : Program} {ops : Array Oper} {rest : List Oper} {o : Oper} {a : Act} {w : World} {Q : Exit → Act → World → Prop} (hgd : o.guard = none) (ty : TypeId) (x : Operand) (ho : o.op = .load ty x)
    (g k : Nat) (hx : a.eval x = .pointer (some ⟨g, k, none⟩)) (t : TypeId) (cs : Array Value) (vs : List Value) (fr : Nat × Nat) (d : TypeDesc) (hg : w.heap[g]? = some (.cells cs t fr))
    (hu : P.underlying ty = some d) (hd : (match d with | .struct _ | .array _ _ => true | _ => false) = true) (hi : (P.info? ty).map (·.size) = some vs.length) (hv : ∀ j v, vs[j]? = some v → cs[k + j]? = some v)
    (h : wpList P ops Q rest (a.put o.dst (.agg vs.toArray)) w) : wpList P ops Q (o :: rest) a w :=
  wpList_plain hgd fun _ hK => wp_load_at ty x ho g k hx t cs vs fr d hg hu hd hi hv (hK _ _ h)

theorem results_cell_tmps {P : Program} {fn : Func} {p u v : Tmp} {ty : TypeId} (h : fn.results = #[.cell p ty, .tmp u, .tmp v]) (tmps : Array Value) (w : World) (g : Nat) (t : TypeId) (cs : Array Value) (fr : Nat × Nat) (d : TypeDesc)
    (hp : tmps.getD p undef = .pointer (some ⟨g, 0, none⟩)) (hg : w.heap[g]? = some (.cells cs t fr))
    (hu : P.underlying ty = some d) (hd : (match d with | .struct _ | .array _ _ => true | _ => false) = true) (hi : (P.info? ty).map (·.size) = some cs.size) :
    (results fn tmps).run P w = .ok (.tuple #[.agg cs, tmps.getD u undef, tmps.getD v undef]) w := by
  have hp' : tmps[p]?.getD undef = .pointer (some ⟨g, 0, none⟩) := by simpa using hp
  simp [results, h, hp', asAddr, run_loadVar_row w g t ty cs fr d hg hu hd hi]

theorem below_row {B : Nat} {w0 w : World} (h : Below B w0 w) {g : Nat} (hg : B ≤ g) (cs : Array Value) : Below B w0 (w.setRow g cs) := by
  refine ⟨h.os, h.tape, h.output, ?_, fun k hk => ?_⟩
  · have := h.size
    simpa [World.setRow] using this
  · rw [← h.block k hk]
    unfold World.setRow
    simp only [Array.getElem?_modify]
    rw [if_neg (by omega)]

theorem at_row {w : World} {g : Nat} {old : Array Value} {T : TypeId} (h : At w g old T) (cs : Array Value) : At (w.setRow g cs) g cs T := setRow_heap w g old cs T (0, 0) h

theorem at_row_far {w : World} {c g : Nat} {cs' : Array Value} {T : TypeId} (h : At w c cs' T) (hn : c ≠ g) (cs : Array Value) : At (w.setRow g cs) c cs' T := by
  unfold At at h ⊢
  rw [← h]
  unfold World.setRow
  simp only [Array.getElem?_modify]
  rw [if_neg (by omega)]

theorem stC_len (s : St) : (stC s).length = 60 := rfl

theorem stC_one (s : St) : (stC s).all (·.oneCell') = true := rfl

theorem results_cell_tmp {P : Program} {fn : Func} {p u : Tmp} {ty : TypeId} (h : fn.results = #[.cell p ty, .tmp u]) (tmps : Array Value) (w : World) (g : Nat) (t : TypeId) (cs : Array Value) (fr : Nat × Nat) (d : TypeDesc)
    (hp : tmps.getD p undef = .pointer (some ⟨g, 0, none⟩)) (hg : w.heap[g]? = some (.cells cs t fr))
    (hu : P.underlying ty = some d) (hd : (match d with | .struct _ | .array _ _ => true | _ => false) = true) (hi : (P.info? ty).map (·.size) = some cs.size) :
    (results fn tmps).run P w = .ok (.tuple #[.agg cs, tmps.getD u undef]) w := by
  have hp' : tmps[p]?.getD undef = .pointer (some ⟨g, 0, none⟩) := by simpa using hp
  simp [results, h, hp', asAddr, run_loadVar_row w g t ty cs fr d hg hu hd hi]

theorem _root_.Go.Proofs.Ythbncbdnpeglfaa.Ev.At.put4 {w : World} {b : Nat} {x0 x1 x2 x3 : Value} {T : TypeId} (h : At w b #[x0, x1, x2, x3] T) (v0 v1 v2 v3 : Value) : At ((((w.setCell ⟨b, 0, none⟩ v0).setCell ⟨b, 1, none⟩ v1).setCell ⟨b, 2, none⟩ v2).setCell ⟨b, 3, none⟩ v3) b #[v0, v1, v2, v3] T :=
  heap_setCell_same _ b 3 _ _ v3 (heap_setCell_same _ b 2 _ _ v2 (heap_setCell_same _ b 1 _ _ v1 (heap_setCell_same w b 0 _ _ v0 h)))

end Go.Proofs.Ythbncbdnpeglfaa.Gm
