/- Players, shots and states as numbers, and what a step makes of them (layer 12, game). -/
import Derived.Test.YtoogcbniphoaoaaDoorShC
import Derived.Test.YtoogcbniphoaoaaDoorEvAw
import Derived.Test.YtoogcbniphoaoaaDoorDcMath
namespace Go.Proofs.YtoogcbniphoaoaaDoor.Gm
open Go.RowKit Go.Proofs.YtoogcbniphoaoaaDoor.Fx Go.Proofs.YtoogcbniphoaoaaDoor.Tg Go.Proofs.YtoogcbniphoaoaaDoor.Dc
open Go.Proofs.YtoogcbniphoaoaaDoor.Ev (Ev Ky addR pageI)
open Go.Proofs.YtoogcbniphoaoaaDoor.Sh (In32 vec box insideB touchB slI mvP mvV wallI)
set_option linter.unusedVariables false

theorem hid {p : Prop} (h : p) : Hid p := h

/-- a player. -/
structure Pl where
  ax : Int
  ay : Int
  vx : Int
  vy : Int
  fa : Int
  hp : Int
  co : Int
  wi : Int
  dn : Int
  sc : Int
deriving DecidableEq
/-- a shot. -/
structure Bu where
  ax : Int
  ay : Int
  vx : Int
  vy : Int
  ow : Int
  li : Int
deriving DecidableEq
/-- a state. -/
structure St where
  fr : Int
  di : Int
  rd : Int
  lf : Int
  p0 : Pl
  p1 : Pl
  s0 : Bu
  s1 : Bu
  s2 : Bu
  s3 : Bu
  s4 : Bu
  s5 : Bu
deriving DecidableEq

abbrev plC (p : Pl) : List Value := [.int .i32 p.ax, .int .i32 p.ay, .int .i32 p.vx, .int .i32 p.vy, .int .i64 p.fa, .int .i64 p.hp, .int .i64 p.co, .int .i64 p.wi, .int .i64 p.dn, .int .i64 p.sc]
abbrev buC (x : Bu) : List Value := [.int .i32 x.ax, .int .i32 x.ay, .int .i32 x.vx, .int .i32 x.vy, .int .i64 x.ow, .int .i64 x.li]
def stC (s : St) : List Value := [.int .i64 s.fr, .int .u32 s.di, .int .i64 s.rd, .int .i64 s.lf] ++ plC s.p0 ++ plC s.p1 ++ buC s.s0 ++ buC s.s1 ++ buC s.s2 ++ buC s.s3 ++ buC s.s4 ++ buC s.s5
abbrev plV (p : Pl) : Value := .agg #[.int .i32 p.ax, .int .i32 p.ay, .int .i32 p.vx, .int .i32 p.vy, .int .i64 p.fa, .int .i64 p.hp, .int .i64 p.co, .int .i64 p.wi, .int .i64 p.dn, .int .i64 p.sc]
abbrev buV (x : Bu) : Value := .agg #[.int .i32 x.ax, .int .i32 x.ay, .int .i32 x.vx, .int .i32 x.vy, .int .i64 x.ow, .int .i64 x.li]
def stV (s : St) : Value := .agg (stC s).toArray

def zeroP : Pl := ⟨0, 0, 0, 0, 0, 0, 0, 0, 0, 0⟩
def zeroB : Bu := ⟨0, 0, 0, 0, 0, 0⟩
def zeroS : St := ⟨0, 0, 0, 0, zeroP, zeroP, zeroB, zeroB, zeroB, zeroB, zeroB, zeroB⟩

def plS (s : St) (t : Nat) : Pl := if t = 0 then s.p0 else s.p1
def setP (s : St) (t : Nat) (p : Pl) : St := if t = 0 then { s with p0 := p } else { s with p1 := p }
def shS (s : St) : Nat → Bu
  | 0 => s.s0
  | 1 => s.s1
  | 2 => s.s2
  | 3 => s.s3
  | 4 => s.s4
  | _ => s.s5
def setS (s : St) : Nat → Bu → St
  | 0, x => { s with s0 := x }
  | 1, x => { s with s1 := x }
  | 2, x => { s with s2 := x }
  | 3, x => { s with s3 := x }
  | 4, x => { s with s4 := x }
  | _, x => { s with s5 := x }

/-- players as they begin. -/
def fresh0 : Pl := ⟨-2097152, 0, 0, 0, 0, 3, 0, 0, 0, 0⟩
def fresh1 : Pl := ⟨2097152, 0, 0, 0, 32768, 3, 0, 0, 0, 0⟩
/-- the state at its beginning. -/
def beginS (seed : Int) : St := ⟨0, seed, 0, 600, fresh0, fresh1, zeroB, zeroB, zeroB, zeroB, zeroB, zeroB⟩

abbrev pbox : Value := box (-3932160) (-3932160) 3932160 3932160
abbrev abox : Value := box (-4194304) (-4194304) 4194304 4194304
def inP (x y : Int) : Bool := insideB (-3932160) (-3932160) 3932160 3932160 x y
def inA (x y : Int) : Bool := insideB (-4194304) (-4194304) 4194304 4194304 x y

/-- may a player, a shot, a state be. -/
def okP (p : Pl) : Bool := decide (0 ≤ p.fa ∧ p.fa ≤ 65535) && decide (0 ≤ p.hp ∧ p.hp ≤ 3) && decide (0 ≤ p.co ∧ p.co ≤ 8) && decide (0 ≤ p.wi ∧ p.wi ≤ 20) && decide (0 ≤ p.dn ∧ p.dn ≤ 30) && decide (0 ≤ p.sc ∧ p.sc ≤ 2) && inP p.ax p.ay && (decide (0 < p.hp) == decide (p.dn = 0))
def okB (x : Bu) : Bool := decide (x = zeroB) || (decide (1 ≤ x.ow ∧ x.ow ≤ 2) && decide (1 ≤ x.li ∧ x.li ≤ 40) && inA x.ax x.ay)
def okN (s : St) : Bool := decide (0 ≤ s.fr ∧ s.fr ≤ 1073741824) && decide (0 ≤ s.rd ∧ s.rd ≤ 1073741824) && decide (1 ≤ s.lf ∧ s.lf ≤ 600)
def okS (s : St) : Bool := okN s && (okP s.p0 && okP s.p1) && (okB s.s0 && okB s.s1 && okB s.s2 && okB s.s3 && okB s.s4 && okB s.s5)

/-- what the types of a player's, a shot's and a state's fields let be. -/
def tyP (p : Pl) : Prop := In32 p.ax ∧ In32 p.ay ∧ In32 p.vx ∧ In32 p.vy
def tyB (x : Bu) : Prop := In32 x.ax ∧ In32 x.ay ∧ In32 x.vx ∧ In32 x.vy
def tyS (s : St) : Prop := (0 ≤ s.di ∧ s.di < 4294967296) ∧ tyP s.p0 ∧ tyP s.p1 ∧ tyB s.s0 ∧ tyB s.s1 ∧ tyB s.s2 ∧ tyB s.s3 ∧ tyB s.s4 ∧ tyB s.s5

/-- what is the same in all events of a kind. -/
def gainI (k : Int) : Int := if k = 1 then 16384 else if k = 2 then 32768 else if k = 3 then 8192 else if k = 4 then 16384 else if k = 5 then 32768 else if k = 6 then 16384 else if k = 7 then 32768 else if k = 8 then 4096 else 8192
def prioI (k : Int) : Int := if k = 1 then 5 else if k = 2 then 8 else if k = 3 then 3 else if k = 4 then 6 else if k = 5 then 10 else if k = 6 then 9 else if k = 7 then 12 else if k = 8 then 1 else 4
def longI (k : Int) : Int := if k = 8 then 8 else 0
def panI (e x : Int) : Int := if e = 0 then 0 else x / 128
def evt (e k x : Int) : Ev := ⟨⟨0, e, k, 0⟩, k, gainI k, panI e x, prioI k, longI k⟩
/-- one more event, of an emitter and a kind, from a place. -/
def tel (fr : Int) (l : List Ev) (e k x : Int) : List Ev := (addR fr l (evt e k x)).1
theorem tel_inv {fr : Int} {l : List Ev} (h : pageI fr l) (e k x : Int) : pageI fr (tel fr l e k x) := Ev.add_inv h _

/-- the way of an angle, so long. -/
def wayX (f n : Int) : Int := satI (waveI (f + 16384) * n / 65536)
def wayY (f n : Int) : Int := satI (waveI f * n / 65536)
def coolI (n : Int) : Int := if 0 < n then n - 1 else n
def turnI (f a : Int) : Int := (f - 1024 * (a % 2) + 1024 * (a / 2 % 2)) % 65536

def cornX (k : Int) : Int := if k = 0 ∨ k = 2 then -2621440 else 2621440
def cornY (k : Int) : Int := if k = 0 ∨ k = 1 then -2621440 else 2621440

abbrev Q := St × List Ev

/-- a player that is down. -/
def restP (t : Nat) (q : Q) : Q :=
  if (plS q.1 t).dn = 1 then
    ({ setP q.1 t ⟨cornX (thI (nxI q.1.di) 4), cornY (thI (nxI q.1.di) 4), 0, 0, 0, 3, 0, 0, 0, (plS q.1 t).sc⟩ with di := nxI q.1.di }, tel q.1.fr q.2 (t + 1) 6 (cornX (thI (nxI q.1.di) 4)))
  else (setP q.1 t { plS q.1 t with dn := (plS q.1 t).dn - 1 }, q.2)

abbrev R := Pl × List Ev
def coolP (a : Int) (p : Pl) : Pl := { p with co := coolI p.co, wi := coolI p.wi, fa := turnI p.fa a }
def brakeP (a : Int) (p : Pl) : Pl := if a / 8 % 2 = 1 then { p with vx := satI (p.vx * 32768 / 65536), vy := satI (p.vy * 32768 / 65536) } else p
def boostP (n : Int) (p : Pl) : Pl := { p with vx := satI (p.vx + wayX p.fa n), vy := satI (p.vy + wayY p.fa n) }
def thrustP (fr e a : Int) (r : R) : R := if a / 4 % 2 = 1 then (boostP 8192 r.1, if fr % 8 = 0 then tel fr r.2 e 8 r.1.ax else r.2) else r
def dashP (fr e a : Int) (r : R) : R := if a / 32 % 2 = 1 ∧ r.1.wi = 0 then ({ boostP 65536 r.1 with wi := 20 }, tel fr r.2 e 9 r.1.ax) else r
def driveP (fr e a : Int) (r : R) : R := dashP fr e a (thrustP fr e a (brakeP a r.1, r.2))
/-- the way slowed. -/
def slowX (p : Pl) : Int := slI (satI (p.vx * 61440 / 65536)) (satI (p.vx * 61440 / 65536)) (satI (p.vy * 61440 / 65536)) 131072
def slowY (p : Pl) : Int := slI (satI (p.vy * 61440 / 65536)) (satI (p.vx * 61440 / 65536)) (satI (p.vy * 61440 / 65536)) 131072
def moveP (fr e : Int) (r : R) : R :=
  ({ r.1 with ax := mvP r.1.ax (slowX r.1) (-3932160) 3932160, ay := mvP r.1.ay (slowY r.1) (-3932160) 3932160, vx := mvV r.1.ax (slowX r.1) (-3932160) 3932160, vy := mvV r.1.ay (slowY r.1) (-3932160) 3932160 },
   if wallI r.1.ax r.1.ay (slowX r.1) (slowY r.1) (-3932160) (-3932160) 3932160 3932160 = 0 then r.2 else tel fr r.2 e 3 (mvP r.1.ax (slowX r.1) (-3932160) 3932160))
/-- the shot that a player makes. -/
def shotP (e : Int) (p : Pl) : Bu := ⟨satI (p.ax + wayX p.fa 262144), satI (p.ay + wayY p.fa 262144), wayX p.fa 196608, wayY p.fa 196608, e, 40⟩
/-- the first free shot. -/
def freeS (s : St) : Option Nat := (List.range 6).find? fun k => decide ((shS s k).ow = 0)
def fireQ (t : Nat) (q : Q) : Q :=
  match freeS q.1 with
  | some k => (setP (setS q.1 k (shotP (t + 1) (plS q.1 t))) t { plS q.1 t with co := 8 }, tel q.1.fr q.2 (t + 1) 1 (plS q.1 t).ax)
  | none => q
def fireP (t : Nat) (a : Int) (q : Q) : Q := if a / 16 % 2 = 1 ∧ (plS q.1 t).co = 0 then fireQ t q else q
def upP (t : Nat) (a : Int) (q : Q) : Q :=
  let r := moveP q.1.fr (t + 1) (driveP q.1.fr (t + 1) a (coolP a (plS q.1 t), q.2))
  fireP t a (setP q.1 t r.1, r.2)
def playP (t : Nat) (a : Int) (q : Q) : Q := if 0 < (plS q.1 t).dn then restP t q else upP t a q

def clashP (q : Q) : Q :=
  if q.1.p0.dn = 0 ∧ q.1.p1.dn = 0 ∧ touchB q.1.p0.ax q.1.p0.ay 262144 q.1.p1.ax q.1.p1.ay 262144 = true then
    ({ q.1 with p0 := { q.1.p0 with vx := q.1.p1.vx, vy := q.1.p1.vy }, p1 := { q.1.p1 with vx := q.1.p0.vx, vy := q.1.p0.vy } }, tel q.1.fr q.2 0 4 0)
  else q

def hitP (o : Nat) (q : Q) : Q :=
  if (plS q.1 o).hp = 1 then
    (setP (setP q.1 o { plS q.1 o with hp := 0, dn := 30 }) (1 - o) { plS q.1 (1 - o) with sc := (plS q.1 (1 - o)).sc + 1 }, tel q.1.fr (tel q.1.fr q.2 (o + 1) 2 (plS q.1 o).ax) (o + 1) 5 (plS q.1 o).ax)
  else (setP q.1 o { plS q.1 o with hp := (plS q.1 o).hp - 1 }, tel q.1.fr q.2 (o + 1) 2 (plS q.1 o).ax)
/-- the player that is not the shot's. -/
def othN (x : Bu) : Nat := if x.ow = 1 then 1 else 0
/-- a shot that flew. -/
def onB (x : Bu) : Bu := { x with li := x.li - 1, ax := satI (x.ax + x.vx), ay := satI (x.ay + x.vy) }
def hitsB (s : St) (x : Bu) : Bool := decide ((plS s (othN x)).dn = 0) && touchB (plS s (othN x)).ax (plS s (othN x)).ay 262144 x.ax x.ay 65536
def flyP (k : Nat) (q : Q) : Q :=
  if (shS q.1 k).ow = 0 then q
  else if (shS q.1 k).li = 1 ∨ inA (onB (shS q.1 k)).ax (onB (shS q.1 k)).ay = false then (setS q.1 k zeroB, q.2)
  else if hitsB q.1 (onB (shS q.1 k)) = true then hitP (othN (shS q.1 k)) (setS q.1 k zeroB, q.2)
  else (setS q.1 k (onB (shS q.1 k)), q.2)
def fliesP : Nat → Q → Q
  | 0, q => q
  | n + 1, q => flyP n (fliesP n q)
def countP (q : Q) : Q :=
  if q.1.lf = 1 ∨ 3 ≤ q.1.p0.sc ∨ 3 ≤ q.1.p1.sc then (⟨q.1.fr, q.1.di, q.1.rd + 1, 600, fresh0, fresh1, zeroB, zeroB, zeroB, zeroB, zeroB, zeroB⟩, tel q.1.fr q.2 0 7 0)
  else ({ q.1 with lf := q.1.lf - 1 }, q.2)
def lastP (q : Q) : Q := ({ q.1 with fr := q.1.fr + 1 }, q.2)
/-- one step. -/
def stepP (s : St) (a b : Int) : Q := lastP (countP (fliesP 6 (clashP (playP 1 b (playP 0 a (s, []))))))

/-- what holds of a player in the midst of a step. -/
structure Mp (p : Pl) : Prop where
  ax : -4194304 ≤ p.ax ∧ p.ax ≤ 4194304
  ay : -4194304 ≤ p.ay ∧ p.ay ≤ 4194304
  vx : In32 p.vx
  vy : In32 p.vy
  fa : 0 ≤ p.fa ∧ p.fa ≤ 65535
  hp : 0 ≤ p.hp ∧ p.hp ≤ 3
  co : 0 ≤ p.co ∧ p.co ≤ 8
  wi : 0 ≤ p.wi ∧ p.wi ≤ 20
  dn : 0 ≤ p.dn ∧ p.dn ≤ 30
  sc : 0 ≤ p.sc ∧ p.sc ≤ 1000
  up : p.dn = 0 → 1 ≤ p.hp
/-- what holds of a shot. -/
structure Mb (x : Bu) : Prop where
  ty : tyB x
  ok : x = zeroB ∨ ((1 ≤ x.ow ∧ x.ow ≤ 2) ∧ (1 ≤ x.li ∧ x.li ≤ 40))

end Go.Proofs.YtoogcbniphoaoaaDoor.Gm
