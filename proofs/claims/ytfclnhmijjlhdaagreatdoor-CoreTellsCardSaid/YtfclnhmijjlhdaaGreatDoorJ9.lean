/- Players, shots and states as numbers, and what a step makes of them (layer 12, game). -/
/- A state on its way in memory, with the page of its frame; package game's tables (layer 12, game). -/
import Derived.Test.YtfclnhmijjlhdaaGreatDoorJ2
import Derived.Test.YtfclnhmijjlhdaaGreatDoorEvAw
import Derived.Test.YtfclnhmijjlhdaaGreatDoorJ8
import Derived.Test.YtfclnhmijjlhdaaGreatDoorShE
import Derived.Deep.Cut
namespace Go.Proofs.YtfclnhmijjlhdaaGreatDoor.Gm
open Go.RowKit Go.Proofs.YtfclnhmijjlhdaaGreatDoor.Fx Go.Proofs.YtfclnhmijjlhdaaGreatDoor.Tg Go.Proofs.YtfclnhmijjlhdaaGreatDoor.Dc
open Go.Proofs.YtfclnhmijjlhdaaGreatDoor.Ev (Ev Ky addR pageI)
open Go.Proofs.YtfclnhmijjlhdaaGreatDoor.Sh (In32 vec box insideB touchB slI mvP mvV wallI)
set_option linter.unusedVariables false

theorem hid {p : Prop} (h : p) : Hid p := h

/-- a player. -/
structure Pl where
 ax : Int
 ay : Int
 vx : Int
 vy : Int
 fa : Int
 hp : Int
 co : Int
 wi : Int
 dn : Int
 sc : Int
deriving DecidableEq
/-- a shot. -/
structure Bu where
 ax : Int
 ay : Int
 vx : Int
 vy : Int
 ow : Int
 li : Int
deriving DecidableEq
/-- a state. -/
structure St where
 fr : Int
 di : Int
 rd : Int
 lf : Int
 p0 : Pl
 p1 : Pl
 s0 : Bu
 s1 : Bu
 s2 : Bu
 s3 : Bu
 s4 : Bu
 s5 : Bu
deriving DecidableEq

abbrev plC (p : Pl) : List Value := [.int .i32 p.ax, .int .i32 p.ay, .int .i32 p.vx, .int .i32 p.vy, .int .i64 p.fa, .int .i64 p.hp, .int .i64 p.co, .int .i64 p.wi, .int .i64 p.dn, .int .i64 p.sc]
abbrev buC (x : Bu) : List Value := [.int .i32 x.ax, .int .i32 x.ay, .int .i32 x.vx, .int .i32 x.vy, .int .i64 x.ow, .int .i64 x.li]
def stC (s : St) : List Value := [.int .i64 s.fr, .int .u32 s.di, .int .i64 s.rd, .int .i64 s.lf] ++ plC s.p0 ++ plC s.p1 ++ buC s.s0 ++ buC s.s1 ++ buC s.s2 ++ buC s.s3 ++ buC s.s4 ++ buC s.s5
abbrev plV (p : Pl) : Value := .agg #[.int .i32 p.ax, .int .i32 p.ay, .int .i32 p.vx, .int .i32 p.vy, .int .i64 p.fa, .int .i64 p.hp, .int .i64 p.co, .int .i64 p.wi, .int .i64 p.dn, .int .i64 p.sc]
abbrev buV (x : Bu) : Value := .agg #[.int .i32 x.ax, .int .i32 x.ay, .int .i32 x.vx, .int .i32 x.vy, .int .i64 x.ow, .int .i64 x.li]
def stV (s : St) : Value := .agg (stC s).toArray

def zeroP : Pl := ⟨0, 0, 0, 0, 0, 0, 0, 0, 0, 0⟩
def zeroB : Bu := ⟨0, 0, 0, 0, 0, 0⟩
def zeroS : St := ⟨0, 0, 0, 0, zeroP, zeroP, zeroB, zeroB, zeroB, zeroB, zeroB, zeroB⟩

def plS (s : St) (t : Nat) : Pl := if t = 0 then s.p0 else s.p1
def setP (s : St) (t : Nat) (p : Pl) : St := if t = 0 then { s with p0 := p } else { s with p1 := p }
def shS (s : St) : Nat → Bu
 | 0 => s.s0
 | 1 => s.s1
 | 2 => s.s2
 | 3 => s.s3
 | 4 => s.s4
 | _ => s.s5
def setS (s : St) : Nat → Bu → St
 | 0, x => { s with s0 := x }
 | 1, x => { s with s1 := x }
 | 2, x => { s with s2 := x }
 | 3, x => { s with s3 := x }
 | 4, x => { s with s4 := x }
 | _, x => { s with s5 := x }

/-- players as they begin. -/
def fresh0 : Pl := ⟨-2097152, 0, 0, 0, 0, 3, 0, 0, 0, 0⟩
def fresh1 : Pl := ⟨2097152, 0, 0, 0, 32768, 3, 0, 0, 0, 0⟩
/-- the state at its beginning. -/
def beginS (seed : Int) : St := ⟨0, seed, 0, 600, fresh0, fresh1, zeroB, zeroB, zeroB, zeroB, zeroB, zeroB⟩

abbrev pbox : Value := box (-3932160) (-3932160) 3932160 3932160
abbrev abox : Value := box (-4194304) (-4194304) 4194304 4194304
def inP (x y : Int) : Bool := insideB (-3932160) (-3932160) 3932160 3932160 x y
def inA (x y : Int) : Bool := insideB (-4194304) (-4194304) 4194304 4194304 x y

/-- may a player, a shot, a state be. -/
def okP (p : Pl) : Bool := decide (0 ≤ p.fa ∧ p.fa ≤ 65535) && decide (0 ≤ p.hp ∧ p.hp ≤ 3) && decide (0 ≤ p.co ∧ p.co ≤ 8) && decide (0 ≤ p.wi ∧ p.wi ≤ 20) && decide (0 ≤ p.dn ∧ p.dn ≤ 30) && decide (0 ≤ p.sc ∧ p.sc ≤ 2) && inP p.ax p.ay && (decide (0 < p.hp) == decide (p.dn = 0))
def okB (x : Bu) : Bool := decide (x = zeroB) || (decide (1 ≤ x.ow ∧ x.ow ≤ 2) && decide (1 ≤ x.li ∧ x.li ≤ 40) && inA x.ax x.ay)
def okN (s : St) : Bool := decide (0 ≤ s.fr ∧ s.fr ≤ 1073741824) && decide (0 ≤ s.rd ∧ s.rd ≤ 1073741824) && decide (1 ≤ s.lf ∧ s.lf ≤ 600)
def okS (s : St) : Bool := okN s && (okP s.p0 && okP s.p1) && (okB s.s0 && okB s.s1 && okB s.s2 && okB s.s3 && okB s.s4 && okB s.s5)

/-- what the types of a player's, a shot's and a state's fields let be. -/
def tyP (p : Pl) : Prop := In32 p.ax ∧ In32 p.ay ∧ In32 p.vx ∧ In32 p.vy
def tyB (x : Bu) : Prop := In32 x.ax ∧ In32 x.ay ∧ In32 x.vx ∧ In32 x.vy
def tyS (s : St) : Prop := (0 ≤ s.di ∧ s.di < 4294967296) ∧ tyP s.p0 ∧ tyP s.p1 ∧ tyB s.s0 ∧ tyB s.s1 ∧ tyB s.s2 ∧ tyB s.s3 ∧ tyB s.s4 ∧ tyB s.s5

/-- what is the same in all events of a kind. -/
def gainI (k : Int) : Int := if k = 1 then 16384 else if k = 2 then 32768 else if k = 3 then 8192 else if k = 4 then 16384 else if k = 5 then 32768 else if k = 6 then 16384 else if k = 7 then 32768 else if k = 8 then 4096 else 8192
def prioI (k : Int) : Int := if k = 1 then 5 else if k = 2 then 8 else if k = 3 then 3 else if k = 4 then 6 else if k = 5 then 10 else if k = 6 then 9 else if k = 7 then 12 else if k = 8 then 1 else 4
def longI (k : Int) : Int := if k = 8 then 8 else 0
def panI (e x : Int) : Int := if e = 0 then 0 else x / 128
def evt (e k x : Int) : Ev := ⟨⟨0, e, k, 0⟩, k, gainI k, panI e x, prioI k, longI k⟩
/-- one more event, of an emitter and a kind, from a place. -/
def tel (fr : Int) (l : List Ev) (e k x : Int) : List Ev := (addR fr l (evt e k x)).1
theorem tel_inv {fr : Int} {l : List Ev} (h : pageI fr l) (e k x : Int) : pageI fr (tel fr l e k x) := Ev.add_inv h _

/-- the way of an angle, so long. -/
def wayX (f n : Int) : Int := satI (waveI (f + 16384) * n / 65536)
def wayY (f n : Int) : Int := satI (waveI f * n / 65536)
def coolI (n : Int) : Int := if 0 < n then n - 1 else n
def turnI (f a : Int) : Int := (f - 1024 * (a % 2) + 1024 * (a / 2 % 2)) % 65536

def cornX (k : Int) : Int := if k = 0 ∨ k = 2 then -2621440 else 2621440
def cornY (k : Int) : Int := if k = 0 ∨ k = 1 then -2621440 else 2621440

abbrev Q := St × List Ev

/-- a player that is down. -/
def restP (t : Nat) (q : Q) : Q :=
 if (plS q.1 t).dn = 1 then
  ({ setP q.1 t ⟨cornX (thI (nxI q.1.di) 4), cornY (thI (nxI q.1.di) 4), 0, 0, 0, 3, 0, 0, 0, (plS q.1 t).sc⟩ with di := nxI q.1.di }, tel q.1.fr q.2 (t + 1) 6 (cornX (thI (nxI q.1.di) 4)))
 else (setP q.1 t { plS q.1 t with dn := (plS q.1 t).dn - 1 }, q.2)

abbrev R := Pl × List Ev
def coolP (a : Int) (p : Pl) : Pl := { p with co := coolI p.co, wi := coolI p.wi, fa := turnI p.fa a }
def brakeP (a : Int) (p : Pl) : Pl := if a / 8 % 2 = 1 then { p with vx := satI (p.vx * 32768 / 65536), vy := satI (p.vy * 32768 / 65536) } else p
def boostP (n : Int) (p : Pl) : Pl := { p with vx := satI (p.vx + wayX p.fa n), vy := satI (p.vy + wayY p.fa n) }
def thrustP (fr e a : Int) (r : R) : R := if a / 4 % 2 = 1 then (boostP 8192 r.1, if fr % 8 = 0 then tel fr r.2 e 8 r.1.ax else r.2) else r
def dashP (fr e a : Int) (r : R) : R := if a / 32 % 2 = 1 ∧ r.1.wi = 0 then ({ boostP 65536 r.1 with wi := 20 }, tel fr r.2 e 9 r.1.ax) else r
def driveP (fr e a : Int) (r : R) : R := dashP fr e a (thrustP fr e a (brakeP a r.1, r.2))
/-- the way slowed. -/
def slowX (p : Pl) : Int := slI (satI (p.vx * 61440 / 65536)) (satI (p.vx * 61440 / 65536)) (satI (p.vy * 61440 / 65536)) 131072
def slowY (p : Pl) : Int := slI (satI (p.vy * 61440 / 65536)) (satI (p.vx * 61440 / 65536)) (satI (p.vy * 61440 / 65536)) 131072
def moveP (fr e : Int) (r : R) : R :=
 ({ r.1 with ax := mvP r.1.ax (slowX r.1) (-3932160) 3932160, ay := mvP r.1.ay (slowY r.1) (-3932160) 3932160, vx := mvV r.1.ax (slowX r.1) (-3932160) 3932160, vy := mvV r.1.ay (slowY r.1) (-3932160) 3932160 },
  if wallI r.1.ax r.1.ay (slowX r.1) (slowY r.1) (-3932160) (-3932160) 3932160 3932160 = 0 then r.2 else tel fr r.2 e 3 (mvP r.1.ax (slowX r.1) (-3932160) 3932160))
/-- the shot that a player makes. -/
def shotP (e : Int) (p : Pl) : Bu := ⟨satI (p.ax + wayX p.fa 262144), satI (p.ay + wayY p.fa 262144), wayX p.fa 196608, wayY p.fa 196608, e, 40⟩
/-- the first free shot. -/
def freeS (s : St) : Option Nat := (List.range 6).find? fun k => decide ((shS s k).ow = 0)
def fireQ (t : Nat) (q : Q) : Q :=
 match freeS q.1 with
 | some k => (setP (setS q.1 k (shotP (t + 1) (plS q.1 t))) t { plS q.1 t with co := 8 }, tel q.1.fr q.2 (t + 1) 1 (plS q.1 t).ax)
 | none => q
def fireP (t : Nat) (a : Int) (q : Q) : Q := if a / 16 % 2 = 1 ∧ (plS q.1 t).co = 0 then fireQ t q else q
def upP (t : Nat) (a : Int) (q : Q) : Q :=
 let r := moveP q.1.fr (t + 1) (driveP q.1.fr (t + 1) a (coolP a (plS q.1 t), q.2))
 fireP t a (setP q.1 t r.1, r.2)
def playP (t : Nat) (a : Int) (q : Q) : Q := if 0 < (plS q.1 t).dn then restP t q else upP t a q

def clashP (q : Q) : Q :=
 if q.1.p0.dn = 0 ∧ q.1.p1.dn = 0 ∧ touchB q.1.p0.ax q.1.p0.ay 262144 q.1.p1.ax q.1.p1.ay 262144 = true then
  ({ q.1 with p0 := { q.1.p0 with vx := q.1.p1.vx, vy := q.1.p1.vy }, p1 := { q.1.p1 with vx := q.1.p0.vx, vy := q.1.p0.vy } }, tel q.1.fr q.2 0 4 0)
 else q

def hitP (o : Nat) (q : Q) : Q :=
 if (plS q.1 o).hp = 1 then
  (setP (setP q.1 o { plS q.1 o with hp := 0, dn := 30 }) (1 - o) { plS q.1 (1 - o) with sc := (plS q.1 (1 - o)).sc + 1 }, tel q.1.fr (tel q.1.fr q.2 (o + 1) 2 (plS q.1 o).ax) (o + 1) 5 (plS q.1 o).ax)
 else (setP q.1 o { plS q.1 o with hp := (plS q.1 o).hp - 1 }, tel q.1.fr q.2 (o + 1) 2 (plS q.1 o).ax)
/-- the player that is not the shot's. -/
def othN (x : Bu) : Nat := if x.ow = 1 then 1 else 0
/-- a shot that flew. -/
def onB (x : Bu) : Bu := { x with li := x.li - 1, ax := satI (x.ax + x.vx), ay := satI (x.ay + x.vy) }
def hitsB (s : St) (x : Bu) : Bool := decide ((plS s (othN x)).dn = 0) && touchB (plS s (othN x)).ax (plS s (othN x)).ay 262144 x.ax x.ay 65536
def flyP (k : Nat) (q : Q) : Q :=
 if (shS q.1 k).ow = 0 then q
 else if (shS q.1 k).li = 1 ∨ inA (onB (shS q.1 k)).ax (onB (shS q.1 k)).ay = false then (setS q.1 k zeroB, q.2)
 else if hitsB q.1 (onB (shS q.1 k)) = true then hitP (othN (shS q.1 k)) (setS q.1 k zeroB, q.2)
 else (setS q.1 k (onB (shS q.1 k)), q.2)
def fliesP : Nat → Q → Q
 | 0, q => q
 | n + 1, q => flyP n (fliesP n q)
def countP (q : Q) : Q :=
 if q.1.lf = 1 ∨ 3 ≤ q.1.p0.sc ∨ 3 ≤ q.1.p1.sc then (⟨q.1.fr, q.1.di, q.1.rd + 1, 600, fresh0, fresh1, zeroB, zeroB, zeroB, zeroB, zeroB, zeroB⟩, tel q.1.fr q.2 0 7 0)
 else ({ q.1 with lf := q.1.lf - 1 }, q.2)
def lastP (q : Q) : Q := ({ q.1 with fr := q.1.fr + 1 }, q.2)
/-- one step. -/
def stepP (s : St) (a b : Int) : Q := lastP (countP (fliesP 6 (clashP (playP 1 b (playP 0 a (s, []))))))

/-- what holds of a player in the midst of a step. -/
structure Mp (p : Pl) : Prop where
 ax : -4194304 ≤ p.ax ∧ p.ax ≤ 4194304
 ay : -4194304 ≤ p.ay ∧ p.ay ≤ 4194304
 vx : In32 p.vx
 vy : In32 p.vy
 fa : 0 ≤ p.fa ∧ p.fa ≤ 65535
 hp : 0 ≤ p.hp ∧ p.hp ≤ 3
 co : 0 ≤ p.co ∧ p.co ≤ 8
 wi : 0 ≤ p.wi ∧ p.wi ≤ 20
 dn : 0 ≤ p.dn ∧ p.dn ≤ 30
 sc : 0 ≤ p.sc ∧ p.sc ≤ 1000
 up : p.dn = 0 → 1 ≤ p.hp
/-- what holds of a shot. -/
structure Mb (x : Bu) : Prop where
 ty : tyB x
 ok : x = zeroB ∨ ((1 ≤ x.ow ∧ x.ow ≤ 2) ∧ (1 ≤ x.li ∧ x.li ≤ 40))

end Go.Proofs.YtfclnhmijjlhdaaGreatDoor.Gm

namespace Go.Proofs.YtfclnhmijjlhdaaGreatDoor.Gm
open Go.RowKit Go.Proofs.YtfclnhmijjlhdaaGreatDoor.Fx Go.Proofs.YtfclnhmijjlhdaaGreatDoor.Tg Go.Proofs.YtfclnhmijjlhdaaGreatDoor.Dc
open Go.Proofs.YtfclnhmijjlhdaaGreatDoor.Ev (Ev Ky addR pageI At ecs Pg Evs)
open Go.Proofs.YtfclnhmijjlhdaaGreatDoor.Sh (In32 vec box insideB touchB slI mvP mvV wallI)
open Go.Proofs.YtfclnhmijjlhdaaGreatDoor.Rg (Keeps Foot Held)
set_option linter.unusedVariables false

/-- the tables: where players come back, and what events of a kind have in common. -/
def cornC : List Value := [.int .i32 (-2621440), .int .i32 (-2621440), .int .i32 2621440, .int .i32 (-2621440), .int .i32 (-2621440), .int .i32 2621440, .int .i32 2621440, .int .i32 2621440]
def sndE (k : Nat) : Ev := if k = 0 then ⟨⟨0, 0, 0, 0⟩, 0, 0, 0, 0, 0⟩ else ⟨⟨0, 0, 0, 0⟩, k, gainI k, 0, prioI k, longI k⟩
structure Tab (w : World) : Prop where
 corn : ∀ j v, cornC[j]? = some v → w.cell? ⟨0, j, none⟩ = some v
 snd : ∀ k j v, k < 10 → (ecs (sndE k))[j]? = some v → w.cell? ⟨1, k * 9 + j, none⟩ = some v
theorem Tab.lt {w : World} (h : Tab w) : 1 < w.heap.size := World.block_lt_of_cell? w _ (h.snd 0 0 (.int .i64 0) (by decide) rfl)
theorem Tab.below {w w' : World} {n : Nat} (h : Tab w) (hn : 2 ≤ n) (hb : Below n w w') : Tab w' :=
 ⟨fun j v hv => (hb.cell (p := ⟨0, j, none⟩) (show 0 < n by omega)).trans (h.corn j v hv), fun k j v hk hv => (hb.cell (p := ⟨1, k * 9 + j, none⟩) (show 1 < n by omega)).trans (h.snd k j v hk hv)⟩

/-- blocks of types other than these are kept, and all below n. -/
structure Kt (n : Nat) (w w' : World) : Prop where
 old : Below n w w'
 oth : ∀ k cs T, At w k cs T → T ≠ 113 → T ≠ 153 → T ≠ 120 → At w' k cs T
theorem Kt.refl (n : Nat) (w : World) : Kt n w w := ⟨Below.refl _ _, fun _ _ _ h _ _ _ => h⟩
theorem Kt.trans {n : Nat} {a b c : World} (h : Kt n a b) (k : Kt n b c) : Kt n a c :=
 ⟨h.old.trans k.old, fun i cs T x e1 e2 e3 => k.oth i cs T (h.oth i cs T x e1 e2 e3) e1 e2 e3⟩
theorem Kt.ofBelow {n : Nat} {w w' : World} (hn : n ≤ w.heap.size) (h : Below w.heap.size w w') : Kt n w w' :=
 ⟨h.mono hn, fun k cs T x _ _ _ => x.below h⟩
theorem Kt.alloc {n : Nat} {a w : World} (h : Kt n a w) (hn : n ≤ w.heap.size) (o : Obj) : Kt n a (w.alloc o) := h.trans (Kt.ofBelow hn (Ev.bal (Ev.br w) o))
theorem Kt.drew {n : Nat} {a w : World} (h : Kt n a w) (hn : n ≤ w.heap.size) (q : Nat) : Kt n a (w.drewN q) := h.trans (Kt.ofBelow hn (Ev.bdn (Ev.br w) q))

/-- block b is a step on its way: the state s, and a page with the events l. -/
structure Gs (w : World) (n b pb : Nat) (s : St) (l : List Ev) : Prop where
 tab : Tab w
 blk : At w b (stC s ++ [Value.pointer (some ⟨pb, 0, none⟩)]).toArray 113
 pg : ∃ ao cap, Pg w n pb s.fr ao cap l
 inv : pageI s.fr l
 ge : n ≤ b
 two : 2 ≤ n

section
variable {w w' : World} {n b pb : Nat} {s : St} {l : List Ev}
theorem Gs.size (h : Gs w n b pb s l) : n ≤ w.heap.size := Nat.le_of_lt (Nat.lt_of_le_of_lt h.ge h.blk.lt)
theorem Gs.below (h : Gs w n b pb s l) (g : Below w.heap.size w w') : Gs w' n b pb s l := by
 obtain ⟨ao, cap, hp⟩ := h.pg
 exact ⟨h.tab.below (by have := h.tab.lt; omega) g, h.blk.below g, ⟨ao, cap, hp.old g⟩, h.inv, h.ge, h.two⟩
theorem Gs.cell (h : Gs w n b pb s l) (j : Nat) : w.cell? ⟨b, j, none⟩ = (stC s ++ [Value.pointer (some ⟨pb, 0, none⟩)])[j]? := by
 rw [cell_of_row w b j _ _ _ h.blk]; simp
theorem Gs.frozen (h : Gs w n b pb s l) (j : Nat) : w.frozen? ⟨b, j, none⟩ = false := h.blk.frozen j
theorem Gs.hd (h : Gs w n b pb s l) : w.cell? ⟨b, 0, none⟩ = some (.int .i64 s.fr) ∧ w.cell? ⟨b, 1, none⟩ = some (.int .u32 s.di) ∧ w.cell? ⟨b, 2, none⟩ = some (.int .i64 s.rd) ∧ w.cell? ⟨b, 3, none⟩ = some (.int .i64 s.lf) ∧ w.cell? ⟨b, 60, none⟩ = some (.pointer (some ⟨pb, 0, none⟩)) :=
 ⟨h.cell 0, h.cell 1, h.cell 2, h.cell 3, h.cell 60⟩
theorem Gs.p0 (h : Gs w n b pb s l) : w.cell? ⟨b, 4, none⟩ = some (.int .i32 s.p0.ax) ∧ w.cell? ⟨b, 5, none⟩ = some (.int .i32 s.p0.ay) ∧ w.cell? ⟨b, 6, none⟩ = some (.int .i32 s.p0.vx) ∧ w.cell? ⟨b, 7, none⟩ = some (.int .i32 s.p0.vy) ∧ w.cell? ⟨b, 8, none⟩ = some (.int .i64 s.p0.fa) ∧ w.cell? ⟨b, 9, none⟩ = some (.int .i64 s.p0.hp) ∧ w.cell? ⟨b, 10, none⟩ = some (.int .i64 s.p0.co) ∧ w.cell? ⟨b, 11, none⟩ = some (.int .i64 s.p0.wi) ∧ w.cell? ⟨b, 12, none⟩ = some (.int .i64 s.p0.dn) ∧ w.cell? ⟨b, 13, none⟩ = some (.int .i64 s.p0.sc) :=
 ⟨h.cell 4, h.cell 5, h.cell 6, h.cell 7, h.cell 8, h.cell 9, h.cell 10, h.cell 11, h.cell 12, h.cell 13⟩
theorem Gs.p1 (h : Gs w n b pb s l) : w.cell? ⟨b, 14, none⟩ = some (.int .i32 s.p1.ax) ∧ w.cell? ⟨b, 15, none⟩ = some (.int .i32 s.p1.ay) ∧ w.cell? ⟨b, 16, none⟩ = some (.int .i32 s.p1.vx) ∧ w.cell? ⟨b, 17, none⟩ = some (.int .i32 s.p1.vy) ∧ w.cell? ⟨b, 18, none⟩ = some (.int .i64 s.p1.fa) ∧ w.cell? ⟨b, 19, none⟩ = some (.int .i64 s.p1.hp) ∧ w.cell? ⟨b, 20, none⟩ = some (.int .i64 s.p1.co) ∧ w.cell? ⟨b, 21, none⟩ = some (.int .i64 s.p1.wi) ∧ w.cell? ⟨b, 22, none⟩ = some (.int .i64 s.p1.dn) ∧ w.cell? ⟨b, 23, none⟩ = some (.int .i64 s.p1.sc) :=
 ⟨h.cell 14, h.cell 15, h.cell 16, h.cell 17, h.cell 18, h.cell 19, h.cell 20, h.cell 21, h.cell 22, h.cell 23⟩
theorem Gs.lt (h : Gs w n b pb s l) : b < w.heap.size := h.blk.lt
/-- one field is stored. -/
theorem Gs.set (h : Gs w n b pb s l) {j : Nat} {v : Value} {s' : St} (hs : stC s' = (stC s).set j v) (hj : j < 60) (hf : s'.fr = s.fr) : Gs (w.setCell ⟨b, j, none⟩ v) n b pb s' l := by
 obtain ⟨ao, cap, hp⟩ := h.pg
 have hne : pb ≠ b := by
  intro e
  subst e
  have := hp.block.symm.trans h.blk
  simp at this
 have hk : Keeps (fun k => k = b) w (w.setCell ⟨b, j, none⟩ v) := (Keeps.refl (fun k => k = b) w).setCell (p := ⟨b, j, none⟩) (fun _ => rfl) v
 have hfoot : ∀ i, Foot pb ao i → ¬ i = b := by
  rintro i (rfl | ⟨a, ha, rfl⟩) e
  · exact hne e
  · rcases hp.form with ⟨h1, _⟩ | ⟨g, cur, h1, _, hg, _⟩
    · rw [h1] at ha; cases ha
    · rw [h1] at ha
      cases ha
      simp only at e
      subst e
      have := hg.symm.trans h.blk
      simp at this
 refine ⟨?_, ?_, ⟨ao, cap, ?_⟩, by rw [hf]; exact h.inv, h.ge, h.two⟩
 · refine h.tab.below (n := n) h.two ?_
   exact (Below.refl n w).setCell (p := ⟨b, j, none⟩) h.ge v
 · have h2 := heap_setCell_same w b j _ _ v h.blk
   unfold At
   rw [h2]
   congr 2
   apply Array.ext'
   rw [hs]
   simp
   rw [List.set_append_left _ _ (by show j < (stC s).length; exact hj)]
 · rw [hf]
   exact hp.keeps hk hfoot
theorem Gs.b0 (h : Gs w n b pb s l) : w.cell? ⟨b, 24, none⟩ = some (.int .i32 s.s0.ax) ∧ w.cell? ⟨b, 25, none⟩ = some (.int .i32 s.s0.ay) ∧ w.cell? ⟨b, 26, none⟩ = some (.int .i32 s.s0.vx) ∧ w.cell? ⟨b, 27, none⟩ = some (.int .i32 s.s0.vy) ∧ w.cell? ⟨b, 28, none⟩ = some (.int .i64 s.s0.ow) ∧ w.cell? ⟨b, 29, none⟩ = some (.int .i64 s.s0.li) :=
 ⟨h.cell 24, h.cell 25, h.cell 26, h.cell 27, h.cell 28, h.cell 29⟩
theorem Gs.b1 (h : Gs w n b pb s l) : w.cell? ⟨b, 30, none⟩ = some (.int .i32 s.s1.ax) ∧ w.cell? ⟨b, 31, none⟩ = some (.int .i32 s.s1.ay) ∧ w.cell? ⟨b, 32, none⟩ = some (.int .i32 s.s1.vx) ∧ w.cell? ⟨b, 33, none⟩ = some (.int .i32 s.s1.vy) ∧ w.cell? ⟨b, 34, none⟩ = some (.int .i64 s.s1.ow) ∧ w.cell? ⟨b, 35, none⟩ = some (.int .i64 s.s1.li) :=
 ⟨h.cell 30, h.cell 31, h.cell 32, h.cell 33, h.cell 34, h.cell 35⟩
theorem Gs.b2 (h : Gs w n b pb s l) : w.cell? ⟨b, 36, none⟩ = some (.int .i32 s.s2.ax) ∧ w.cell? ⟨b, 37, none⟩ = some (.int .i32 s.s2.ay) ∧ w.cell? ⟨b, 38, none⟩ = some (.int .i32 s.s2.vx) ∧ w.cell? ⟨b, 39, none⟩ = some (.int .i32 s.s2.vy) ∧ w.cell? ⟨b, 40, none⟩ = some (.int .i64 s.s2.ow) ∧ w.cell? ⟨b, 41, none⟩ = some (.int .i64 s.s2.li) :=
 ⟨h.cell 36, h.cell 37, h.cell 38, h.cell 39, h.cell 40, h.cell 41⟩
theorem Gs.b3 (h : Gs w n b pb s l) : w.cell? ⟨b, 42, none⟩ = some (.int .i32 s.s3.ax) ∧ w.cell? ⟨b, 43, none⟩ = some (.int .i32 s.s3.ay) ∧ w.cell? ⟨b, 44, none⟩ = some (.int .i32 s.s3.vx) ∧ w.cell? ⟨b, 45, none⟩ = some (.int .i32 s.s3.vy) ∧ w.cell? ⟨b, 46, none⟩ = some (.int .i64 s.s3.ow) ∧ w.cell? ⟨b, 47, none⟩ = some (.int .i64 s.s3.li) :=
 ⟨h.cell 42, h.cell 43, h.cell 44, h.cell 45, h.cell 46, h.cell 47⟩
theorem Gs.b4 (h : Gs w n b pb s l) : w.cell? ⟨b, 48, none⟩ = some (.int .i32 s.s4.ax) ∧ w.cell? ⟨b, 49, none⟩ = some (.int .i32 s.s4.ay) ∧ w.cell? ⟨b, 50, none⟩ = some (.int .i32 s.s4.vx) ∧ w.cell? ⟨b, 51, none⟩ = some (.int .i32 s.s4.vy) ∧ w.cell? ⟨b, 52, none⟩ = some (.int .i64 s.s4.ow) ∧ w.cell? ⟨b, 53, none⟩ = some (.int .i64 s.s4.li) :=
 ⟨h.cell 48, h.cell 49, h.cell 50, h.cell 51, h.cell 52, h.cell 53⟩
theorem Gs.b5 (h : Gs w n b pb s l) : w.cell? ⟨b, 54, none⟩ = some (.int .i32 s.s5.ax) ∧ w.cell? ⟨b, 55, none⟩ = some (.int .i32 s.s5.ay) ∧ w.cell? ⟨b, 56, none⟩ = some (.int .i32 s.s5.vx) ∧ w.cell? ⟨b, 57, none⟩ = some (.int .i32 s.s5.vy) ∧ w.cell? ⟨b, 58, none⟩ = some (.int .i64 s.s5.ow) ∧ w.cell? ⟨b, 59, none⟩ = some (.int .i64 s.s5.li) :=
 ⟨h.cell 54, h.cell 55, h.cell 56, h.cell 57, h.cell 58, h.cell 59⟩
theorem Kt.setB {a : World} (k : Kt n a w) {cs : Array Value} (h : At w b cs 113) (hn : n ≤ b) (j : Nat) (v : Value) : Kt n a (w.setCell ⟨b, j, none⟩ v) := by
 refine k.trans ⟨(Below.refl n w).setCell (p := ⟨b, j, none⟩) hn v, fun i cs T x e1 _ _ => ?_⟩
 have hib : i ≠ b := by
  intro e
  subst e
  have hx : w.heap[i]? = some (.cells cs T (0, 0)) := x
  have := hx.symm.trans h
  simp at this
  exact e1 this.2
 exact (Below.heap_setCell _ _ _ _ hib).trans x
theorem at_set {cs : Array Value} {T : TypeId} (h : At w b cs T) (j : Nat) (v : Value) : At (w.setCell ⟨b, j, none⟩ v) b (cs.setIfInBounds j v) T := heap_setCell_same w b j _ _ v h
end

/-- and what is kept since the world a. -/
structure Gk (a w : World) (n b pb : Nat) (s : St) (l : List Ev) : Prop where
 gs : Gs w n b pb s l
 kt : Kt n a w
section
variable {a w w' : World} {n b pb : Nat} {s : St} {l : List Ev}
theorem Gs.gk (h : Gs w n b pb s l) : Gk w w n b pb s l := ⟨h, Kt.refl _ _⟩
theorem Gk.below (h : Gk a w n b pb s l) (g : Below w.heap.size w w') : Gk a w' n b pb s l := ⟨h.gs.below g, h.kt.trans (Kt.ofBelow h.gs.size g)⟩
theorem Gk.step {s' : St} {l' : List Ev} (h : Gk a w n b pb s l) (g : Gk w w' n b pb s' l') : Gk a w' n b pb s' l' := ⟨g.gs, h.kt.trans g.kt⟩
theorem Gk.set (h : Gk a w n b pb s l) {j : Nat} {v : Value} {s' : St} (hs : stC s' = (stC s).set j v) (hj : j < 60) (hf : s'.fr = s.fr) : Gk a (w.setCell ⟨b, j, none⟩ v) n b pb s' l := ⟨h.gs.set hs hj hf, h.kt.setB h.gs.blk h.gs.ge _ _⟩
theorem Gk.at {cs : Array Value} {T : TypeId} {c : Nat} (h : Gk a w n b pb s l) (x : At a c cs T) (h1 : T ≠ 113) (h2 : T ≠ 153) (h3 : T ≠ 120) : At w c cs T := h.kt.oth c cs T x h1 h2 h3
theorem Gk.put0 (h : Gk a w n b pb s l) (p : Pl) : Gk a ((((((((((w.setCell ⟨b, 4, none⟩ (.int .i32 p.ax)).setCell ⟨b, 5, none⟩ (.int .i32 p.ay)).setCell ⟨b, 6, none⟩ (.int .i32 p.vx)).setCell ⟨b, 7, none⟩ (.int .i32 p.vy)).setCell ⟨b, 8, none⟩ (.int .i64 p.fa)).setCell ⟨b, 9, none⟩ (.int .i64 p.hp)).setCell ⟨b, 10, none⟩ (.int .i64 p.co)).setCell ⟨b, 11, none⟩ (.int .i64 p.wi)).setCell ⟨b, 12, none⟩ (.int .i64 p.dn)).setCell ⟨b, 13, none⟩ (.int .i64 p.sc)) n b pb { s with p0 := p } l :=
 (((((((((h.set (s' := { s with p0 := { s.p0 with ax := p.ax } }) rfl (by decide) rfl).set (s' := { s with p0 := { s.p0 with ax := p.ax, ay := p.ay } }) rfl (by decide) rfl).set (s' := { s with p0 := { s.p0 with ax := p.ax, ay := p.ay, vx := p.vx } }) rfl (by decide) rfl).set (s' := { s with p0 := { s.p0 with ax := p.ax, ay := p.ay, vx := p.vx, vy := p.vy } }) rfl (by decide) rfl).set (s' := { s with p0 := { s.p0 with ax := p.ax, ay := p.ay, vx := p.vx, vy := p.vy, fa := p.fa } }) rfl (by decide) rfl).set (s' := { s with p0 := { s.p0 with ax := p.ax, ay := p.ay, vx := p.vx, vy := p.vy, fa := p.fa, hp := p.hp } }) rfl (by decide) rfl).set (s' := { s with p0 := { s.p0 with ax := p.ax, ay := p.ay, vx := p.vx, vy := p.vy, fa := p.fa, hp := p.hp, co := p.co } }) rfl (by decide) rfl).set (s' := { s with p0 := { s.p0 with ax := p.ax, ay := p.ay, vx := p.vx, vy := p.vy, fa := p.fa, hp := p.hp, co := p.co, wi := p.wi } }) rfl (by decide) rfl).set (s' := { s with p0 := { s.p0 with ax := p.ax, ay := p.ay, vx := p.vx, vy := p.vy, fa := p.fa, hp := p.hp, co := p.co, wi := p.wi, dn := p.dn } }) rfl (by decide) rfl).set (s' := { s with p0 := { s.p0 with ax := p.ax, ay := p.ay, vx := p.vx, vy := p.vy, fa := p.fa, hp := p.hp, co := p.co, wi := p.wi, dn := p.dn, sc := p.sc } }) rfl (by decide) rfl
theorem Gk.put1 (h : Gk a w n b pb s l) (p : Pl) : Gk a ((((((((((w.setCell ⟨b, 14, none⟩ (.int .i32 p.ax)).setCell ⟨b, 15, none⟩ (.int .i32 p.ay)).setCell ⟨b, 16, none⟩ (.int .i32 p.vx)).setCell ⟨b, 17, none⟩ (.int .i32 p.vy)).setCell ⟨b, 18, none⟩ (.int .i64 p.fa)).setCell ⟨b, 19, none⟩ (.int .i64 p.hp)).setCell ⟨b, 20, none⟩ (.int .i64 p.co)).setCell ⟨b, 21, none⟩ (.int .i64 p.wi)).setCell ⟨b, 22, none⟩ (.int .i64 p.dn)).setCell ⟨b, 23, none⟩ (.int .i64 p.sc)) n b pb { s with p1 := p } l :=
 (((((((((h.set (s' := { s with p1 := { s.p1 with ax := p.ax } }) rfl (by decide) rfl).set (s' := { s with p1 := { s.p1 with ax := p.ax, ay := p.ay } }) rfl (by decide) rfl).set (s' := { s with p1 := { s.p1 with ax := p.ax, ay := p.ay, vx := p.vx } }) rfl (by decide) rfl).set (s' := { s with p1 := { s.p1 with ax := p.ax, ay := p.ay, vx := p.vx, vy := p.vy } }) rfl (by decide) rfl).set (s' := { s with p1 := { s.p1 with ax := p.ax, ay := p.ay, vx := p.vx, vy := p.vy, fa := p.fa } }) rfl (by decide) rfl).set (s' := { s with p1 := { s.p1 with ax := p.ax, ay := p.ay, vx := p.vx, vy := p.vy, fa := p.fa, hp := p.hp } }) rfl (by decide) rfl).set (s' := { s with p1 := { s.p1 with ax := p.ax, ay := p.ay, vx := p.vx, vy := p.vy, fa := p.fa, hp := p.hp, co := p.co } }) rfl (by decide) rfl).set (s' := { s with p1 := { s.p1 with ax := p.ax, ay := p.ay, vx := p.vx, vy := p.vy, fa := p.fa, hp := p.hp, co := p.co, wi := p.wi } }) rfl (by decide) rfl).set (s' := { s with p1 := { s.p1 with ax := p.ax, ay := p.ay, vx := p.vx, vy := p.vy, fa := p.fa, hp := p.hp, co := p.co, wi := p.wi, dn := p.dn } }) rfl (by decide) rfl).set (s' := { s with p1 := { s.p1 with ax := p.ax, ay := p.ay, vx := p.vx, vy := p.vy, fa := p.fa, hp := p.hp, co := p.co, wi := p.wi, dn := p.dn, sc := p.sc } }) rfl (by decide) rfl
theorem Gk.shot0 (h : Gk a w n b pb s l) (x : Bu) : Gk a ((((((w.setCell ⟨b, 24, none⟩ (.int .i32 x.ax)).setCell ⟨b, 25, none⟩ (.int .i32 x.ay)).setCell ⟨b, 26, none⟩ (.int .i32 x.vx)).setCell ⟨b, 27, none⟩ (.int .i32 x.vy)).setCell ⟨b, 28, none⟩ (.int .i64 x.ow)).setCell ⟨b, 29, none⟩ (.int .i64 x.li)) n b pb { s with s0 := x } l :=
 (((((h.set (s' := { s with s0 := { s.s0 with ax := x.ax } }) rfl (by decide) rfl).set (s' := { s with s0 := { s.s0 with ax := x.ax, ay := x.ay } }) rfl (by decide) rfl).set (s' := { s with s0 := { s.s0 with ax := x.ax, ay := x.ay, vx := x.vx } }) rfl (by decide) rfl).set (s' := { s with s0 := { s.s0 with ax := x.ax, ay := x.ay, vx := x.vx, vy := x.vy } }) rfl (by decide) rfl).set (s' := { s with s0 := { s.s0 with ax := x.ax, ay := x.ay, vx := x.vx, vy := x.vy, ow := x.ow } }) rfl (by decide) rfl).set (s' := { s with s0 := { s.s0 with ax := x.ax, ay := x.ay, vx := x.vx, vy := x.vy, ow := x.ow, li := x.li } }) rfl (by decide) rfl
theorem Gk.shot1 (h : Gk a w n b pb s l) (x : Bu) : Gk a ((((((w.setCell ⟨b, 30, none⟩ (.int .i32 x.ax)).setCell ⟨b, 31, none⟩ (.int .i32 x.ay)).setCell ⟨b, 32, none⟩ (.int .i32 x.vx)).setCell ⟨b, 33, none⟩ (.int .i32 x.vy)).setCell ⟨b, 34, none⟩ (.int .i64 x.ow)).setCell ⟨b, 35, none⟩ (.int .i64 x.li)) n b pb { s with s1 := x } l :=
 (((((h.set (s' := { s with s1 := { s.s1 with ax := x.ax } }) rfl (by decide) rfl).set (s' := { s with s1 := { s.s1 with ax := x.ax, ay := x.ay } }) rfl (by decide) rfl).set (s' := { s with s1 := { s.s1 with ax := x.ax, ay := x.ay, vx := x.vx } }) rfl (by decide) rfl).set (s' := { s with s1 := { s.s1 with ax := x.ax, ay := x.ay, vx := x.vx, vy := x.vy } }) rfl (by decide) rfl).set (s' := { s with s1 := { s.s1 with ax := x.ax, ay := x.ay, vx := x.vx, vy := x.vy, ow := x.ow } }) rfl (by decide) rfl).set (s' := { s with s1 := { s.s1 with ax := x.ax, ay := x.ay, vx := x.vx, vy := x.vy, ow := x.ow, li := x.li } }) rfl (by decide) rfl
theorem Gk.shot2 (h : Gk a w n b pb s l) (x : Bu) : Gk a ((((((w.setCell ⟨b, 36, none⟩ (.int .i32 x.ax)).setCell ⟨b, 37, none⟩ (.int .i32 x.ay)).setCell ⟨b, 38, none⟩ (.int .i32 x.vx)).setCell ⟨b, 39, none⟩ (.int .i32 x.vy)).setCell ⟨b, 40, none⟩ (.int .i64 x.ow)).setCell ⟨b, 41, none⟩ (.int .i64 x.li)) n b pb { s with s2 := x } l :=
 (((((h.set (s' := { s with s2 := { s.s2 with ax := x.ax } }) rfl (by decide) rfl).set (s' := { s with s2 := { s.s2 with ax := x.ax, ay := x.ay } }) rfl (by decide) rfl).set (s' := { s with s2 := { s.s2 with ax := x.ax, ay := x.ay, vx := x.vx } }) rfl (by decide) rfl).set (s' := { s with s2 := { s.s2 with ax := x.ax, ay := x.ay, vx := x.vx, vy := x.vy } }) rfl (by decide) rfl).set (s' := { s with s2 := { s.s2 with ax := x.ax, ay := x.ay, vx := x.vx, vy := x.vy, ow := x.ow } }) rfl (by decide) rfl).set (s' := { s with s2 := { s.s2 with ax := x.ax, ay := x.ay, vx := x.vx, vy := x.vy, ow := x.ow, li := x.li } }) rfl (by decide) rfl
theorem Gk.shot3 (h : Gk a w n b pb s l) (x : Bu) : Gk a ((((((w.setCell ⟨b, 42, none⟩ (.int .i32 x.ax)).setCell ⟨b, 43, none⟩ (.int .i32 x.ay)).setCell ⟨b, 44, none⟩ (.int .i32 x.vx)).setCell ⟨b, 45, none⟩ (.int .i32 x.vy)).setCell ⟨b, 46, none⟩ (.int .i64 x.ow)).setCell ⟨b, 47, none⟩ (.int .i64 x.li)) n b pb { s with s3 := x } l :=
 (((((h.set (s' := { s with s3 := { s.s3 with ax := x.ax } }) rfl (by decide) rfl).set (s' := { s with s3 := { s.s3 with ax := x.ax, ay := x.ay } }) rfl (by decide) rfl).set (s' := { s with s3 := { s.s3 with ax := x.ax, ay := x.ay, vx := x.vx } }) rfl (by decide) rfl).set (s' := { s with s3 := { s.s3 with ax := x.ax, ay := x.ay, vx := x.vx, vy := x.vy } }) rfl (by decide) rfl).set (s' := { s with s3 := { s.s3 with ax := x.ax, ay := x.ay, vx := x.vx, vy := x.vy, ow := x.ow } }) rfl (by decide) rfl).set (s' := { s with s3 := { s.s3 with ax := x.ax, ay := x.ay, vx := x.vx, vy := x.vy, ow := x.ow, li := x.li } }) rfl (by decide) rfl
theorem Gk.shot4 (h : Gk a w n b pb s l) (x : Bu) : Gk a ((((((w.setCell ⟨b, 48, none⟩ (.int .i32 x.ax)).setCell ⟨b, 49, none⟩ (.int .i32 x.ay)).setCell ⟨b, 50, none⟩ (.int .i32 x.vx)).setCell ⟨b, 51, none⟩ (.int .i32 x.vy)).setCell ⟨b, 52, none⟩ (.int .i64 x.ow)).setCell ⟨b, 53, none⟩ (.int .i64 x.li)) n b pb { s with s4 := x } l :=
 (((((h.set (s' := { s with s4 := { s.s4 with ax := x.ax } }) rfl (by decide) rfl).set (s' := { s with s4 := { s.s4 with ax := x.ax, ay := x.ay } }) rfl (by decide) rfl).set (s' := { s with s4 := { s.s4 with ax := x.ax, ay := x.ay, vx := x.vx } }) rfl (by decide) rfl).set (s' := { s with s4 := { s.s4 with ax := x.ax, ay := x.ay, vx := x.vx, vy := x.vy } }) rfl (by decide) rfl).set (s' := { s with s4 := { s.s4 with ax := x.ax, ay := x.ay, vx := x.vx, vy := x.vy, ow := x.ow } }) rfl (by decide) rfl).set (s' := { s with s4 := { s.s4 with ax := x.ax, ay := x.ay, vx := x.vx, vy := x.vy, ow := x.ow, li := x.li } }) rfl (by decide) rfl
theorem Gk.shot5 (h : Gk a w n b pb s l) (x : Bu) : Gk a ((((((w.setCell ⟨b, 54, none⟩ (.int .i32 x.ax)).setCell ⟨b, 55, none⟩ (.int .i32 x.ay)).setCell ⟨b, 56, none⟩ (.int .i32 x.vx)).setCell ⟨b, 57, none⟩ (.int .i32 x.vy)).setCell ⟨b, 58, none⟩ (.int .i64 x.ow)).setCell ⟨b, 59, none⟩ (.int .i64 x.li)) n b pb { s with s5 := x } l :=
 (((((h.set (s' := { s with s5 := { s.s5 with ax := x.ax } }) rfl (by decide) rfl).set (s' := { s with s5 := { s.s5 with ax := x.ax, ay := x.ay } }) rfl (by decide) rfl).set (s' := { s with s5 := { s.s5 with ax := x.ax, ay := x.ay, vx := x.vx } }) rfl (by decide) rfl).set (s' := { s with s5 := { s.s5 with ax := x.ax, ay := x.ay, vx := x.vx, vy := x.vy } }) rfl (by decide) rfl).set (s' := { s with s5 := { s.s5 with ax := x.ax, ay := x.ay, vx := x.vx, vy := x.vy, ow := x.ow } }) rfl (by decide) rfl).set (s' := { s with s5 := { s.s5 with ax := x.ax, ay := x.ay, vx := x.vx, vy := x.vy, ow := x.ow, li := x.li } }) rfl (by decide) rfl
end

end Go.Proofs.YtfclnhmijjlhdaaGreatDoor.Gm
