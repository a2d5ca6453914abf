/- A state's bytes, and what a walker makes of a state (layer 13, freeze). -/
import Derived.Test.YthbncbdnpeglfaaFyNum
import Derived.Test.YthbncbdnpeglfaaPkMath
namespace Go.Proofs.Ythbncbdnpeglfaa.Fz
open Go.RowKit
open Go.Proofs.Ythbncbdnpeglfaa.Gm (Pl Bu St plC buC stC zeroP zeroB zeroS plS setP shS setS okP okB okN okS tyP tyB tyS inP inA)
open Go.Proofs.Ythbncbdnpeglfaa.Sh (In32 insideB)
open Go.Proofs.Ythbncbdnpeglfaa.Pk (numL rdN sgnN unsN rd_num num_lt num_pos rd_back uns_sgn sgn_uns sgn_bd)
set_option linter.unusedVariables false

/-- what a walker makes of a number: what shall stand there, and its bytes (false: a writer, and all that it told; true: a reader, and what it has not read). -/
def nxN (k : Bool) (σ : List UInt8) (n : Nat) : Nat × List UInt8 := if k then ((rdN σ).1, σ.drop (rdN σ).2.1) else (n, σ ++ numL n)
def nxZ (k : Bool) (σ : List UInt8) (n : Int) : Int × List UInt8 := if k then (unsN (rdN σ).1, σ.drop (rdN σ).2.1) else (n, σ ++ numL (sgnN n))
def headN : List UInt8 → Nat
  | [] => 0
  | c :: _ => c.toNat
def nxB (k : Bool) (σ : List UInt8) (n : Nat) : Nat × List UInt8 := if k then (headN σ, σ.drop 1) else (n, σ ++ [UInt8.ofNat n])

def i64W (k : Bool) (σ : List UInt8) (x : Int) : Int × List UInt8 := (IntKind.i64.wrap (nxN k σ (x % 18446744073709551616).toNat).1, (nxN k σ (x % 18446744073709551616).toNat).2)
def u32W (k : Bool) (σ : List UInt8) (x : Int) : Int × List UInt8 := (IntKind.u32.wrap (nxN k σ (x % 18446744073709551616).toNat).1, (nxN k σ (x % 18446744073709551616).toNat).2)
def i32W (k : Bool) (σ : List UInt8) (x : Int) : Int × List UInt8 := (IntKind.i32.wrap (nxZ k σ x).1, (nxZ k σ x).2)

/-- a number in a block's cells, and the walker behind it. -/
def intAt (cs : List Value) (j : Nat) : Int := match cs[j]? with
  | some (.int _ x) => x
  | _ => 0
abbrev C := List Value × List UInt8
def atI (k : Bool) (q : C) (j : Nat) : C := (q.1.set j (.int .i64 (i64W k q.2 (intAt q.1 j)).1), (i64W k q.2 (intAt q.1 j)).2)
def atU (k : Bool) (q : C) (j : Nat) : C := (q.1.set j (.int .u32 (u32W k q.2 (intAt q.1 j)).1), (u32W k q.2 (intAt q.1 j)).2)
def atZ (k : Bool) (q : C) (j : Nat) : C := (q.1.set j (.int .i32 (i32W k q.2 (intAt q.1 j)).1), (i32W k q.2 (intAt q.1 j)).2)
def atV (k : Bool) (q : C) (j : Nat) : C := atZ k (atZ k q j) (j + 1)

/-- two vectors, what else a player has, what else a shot has. -/
def plV (k : Bool) (q : Pl × List UInt8) : Pl × List UInt8 :=
  let a := i32W k q.2 q.1.ax
  let b := i32W k a.2 q.1.ay
  let c := i32W k b.2 q.1.vx
  let d := i32W k c.2 q.1.vy
  (⟨a.1, b.1, c.1, d.1, q.1.fa, q.1.hp, q.1.co, q.1.wi, q.1.dn, q.1.sc⟩, d.2)
def plN (k : Bool) (q : Pl × List UInt8) : Pl × List UInt8 :=
  let e := i64W k q.2 q.1.fa
  let f := i64W k e.2 q.1.hp
  let g := i64W k f.2 q.1.co
  let h := i64W k g.2 q.1.wi
  let i := i64W k h.2 q.1.dn
  let j := i64W k i.2 q.1.sc
  (⟨q.1.ax, q.1.ay, q.1.vx, q.1.vy, e.1, f.1, g.1, h.1, i.1, j.1⟩, j.2)
def buV' (k : Bool) (q : Bu × List UInt8) : Bu × List UInt8 :=
  let a := i32W k q.2 q.1.ax
  let b := i32W k a.2 q.1.ay
  let c := i32W k b.2 q.1.vx
  let d := i32W k c.2 q.1.vy
  (⟨a.1, b.1, c.1, d.1, q.1.ow, q.1.li⟩, d.2)
def buN (k : Bool) (q : Bu × List UInt8) : Bu × List UInt8 :=
  let e := i64W k q.2 q.1.ow
  let f := i64W k e.2 q.1.li
  (⟨q.1.ax, q.1.ay, q.1.vx, q.1.vy, e.1, f.1⟩, f.2)
abbrev W := St × List UInt8
def frW (k : Bool) (q : W) : W := let a := i64W k q.2 q.1.fr; ({ q.1 with fr := a.1 }, a.2)
def diW (k : Bool) (q : W) : W := let a := u32W k q.2 q.1.di; ({ q.1 with di := a.1 }, a.2)
def rlW (k : Bool) (q : W) : W := let a := i64W k q.2 q.1.rd; let b := i64W k a.2 q.1.lf; ({ q.1 with rd := a.1, lf := b.1 }, b.2)
def pvW (k : Bool) (t : Nat) (q : W) : W := (setP q.1 t (plV k (plS q.1 t, q.2)).1, (plV k (plS q.1 t, q.2)).2)
def pnW (k : Bool) (t : Nat) (q : W) : W := (setP q.1 t (plN k (plS q.1 t, q.2)).1, (plN k (plS q.1 t, q.2)).2)
def svW (k : Bool) (t : Nat) (q : W) : W := (setS q.1 t (buV' k (shS q.1 t, q.2)).1, (buV' k (shS q.1 t, q.2)).2)
def snW (k : Bool) (t : Nat) (q : W) : W := (setS q.1 t (buN k (shS q.1 t, q.2)).1, (buN k (shS q.1 t, q.2)).2)
def bit (x : Bu) : Nat := if x = zeroB then 0 else 1
/-- a bit of each shot that isn't free, of the first so many. -/
def bitsT (s : St) : Nat → Nat
  | 0 => 0
  | t + 1 => bitsT s t + 2 ^ t * bit (shS s t)
def bitsN (s : St) : Nat := bitsT s 6
def sW (k : Bool) (n : Nat) (q : W) (t : Nat) : W := if n / 2 ^ t % 2 = 0 then q else snW k t (svW k t q)
def sWs (k : Bool) (n : Nat) (q : W) : Nat → W
  | 0 => q
  | t + 1 => sW k n (sWs k n q t) t
def psW (k : Bool) (q : W) : Nat → W
  | 0 => q
  | t + 1 => pnW k t (pvW k t (psW k q t))
def headW (k : Bool) (q : W) : W := psW k (rlW k (diW k (frW k q))) 2
def walkW (k : Bool) (q : W) : W := sWs k (nxB k (headW k q).2 (bitsN (headW k q).1)).1 ((headW k q).1, (nxB k (headW k q).2 (bitsN (headW k q).1)).2) 6

/-- the document's bytes. -/
def numB (x : Int) : List UInt8 := numL x.toNat
def sgnB (x : Int) : List UInt8 := numL (sgnN x)
def vecB (x y : Int) : List UInt8 := sgnB x ++ sgnB y
def plB (p : Pl) : List UInt8 := vecB p.ax p.ay ++ vecB p.vx p.vy ++ numB p.fa ++ numB p.hp ++ numB p.co ++ numB p.wi ++ numB p.dn ++ numB p.sc
def buB (x : Bu) : List UInt8 := if x = zeroB then [] else vecB x.ax x.ay ++ vecB x.vx x.vy ++ numB x.ow ++ numB x.li
def headB (s : St) : List UInt8 := numB s.fr ++ numB s.di ++ numB s.rd ++ numB s.lf ++ plB s.p0 ++ plB s.p1
def behB (s : St) : Nat → List UInt8
  | 0 => []
  | t + 1 => behB s t ++ buB (shS s t)
def bytesS (s : St) : List UInt8 := headB s ++ numL (bitsN s) ++ behB s 6

/-- what the types let be. -/
def R64 (x : Int) : Prop := -9223372036854775808 ≤ x ∧ x ≤ 9223372036854775807
def R32 (x : Int) : Prop := -2147483648 ≤ x ∧ x ≤ 2147483647
def tpV (x y u v : Int) : Prop := R32 x ∧ R32 y ∧ R32 u ∧ R32 v
def tpP (p : Pl) : Prop := tpV p.ax p.ay p.vx p.vy ∧ R64 p.fa ∧ R64 p.hp ∧ R64 p.co ∧ R64 p.wi ∧ R64 p.dn ∧ R64 p.sc
def tpB (p : Bu) : Prop := tpV p.ax p.ay p.vx p.vy ∧ R64 p.ow ∧ R64 p.li
structure Ty (s : St) : Prop where
  fr : R64 s.fr
  di : 0 ≤ s.di ∧ s.di ≤ 4294967295
  rd : R64 s.rd
  lf : R64 s.lf
  pl : ∀ t, tpP (plS s t)
  sh : ∀ t, tpB (shS s t)
theorem i64_R (y : Int) : R64 (IntKind.i64.wrap y) := by
  rw [IntKind.wrap_i64]
  unfold R64
  omega
theorem i32_R (y : Int) : R32 (IntKind.i32.wrap y) := by
  rw [IntKind.wrap_i32]
  unfold R32
  omega
theorem u32_R (y : Int) : 0 ≤ IntKind.u32.wrap y ∧ IntKind.u32.wrap y ≤ 4294967295 := by
  rw [IntKind.wrap_u32]
  omega
theorem pls_setP (s : St) (t i : Nat) (p : Pl) : plS (setP s t p) i = p ∨ plS (setP s t p) i = plS s i := by
  unfold setP plS
  split <;> split <;> simp
theorem shs_setP (s : St) (t i : Nat) (p : Pl) : shS (setP s t p) i = shS s i := by
  unfold setP
  split <;> rfl
theorem shs_setS (s : St) (t i : Nat) (p : Bu) : shS (setS s t p) i = p ∨ shS (setS s t p) i = shS s i := by
  match t with
  | 0 =>
    match i with
    | 0 => exact .inl rfl
    | 1 => exact .inr rfl
    | 2 => exact .inr rfl
    | 3 => exact .inr rfl
    | 4 => exact .inr rfl
    | _ + 5 => exact .inr rfl
  | 1 =>
    match i with
    | 1 => exact .inl rfl
    | 0 => exact .inr rfl
    | 2 => exact .inr rfl
    | 3 => exact .inr rfl
    | 4 => exact .inr rfl
    | _ + 5 => exact .inr rfl
  | 2 =>
    match i with
    | 2 => exact .inl rfl
    | 0 => exact .inr rfl
    | 1 => exact .inr rfl
    | 3 => exact .inr rfl
    | 4 => exact .inr rfl
    | _ + 5 => exact .inr rfl
  | 3 =>
    match i with
    | 3 => exact .inl rfl
    | 0 => exact .inr rfl
    | 1 => exact .inr rfl
    | 2 => exact .inr rfl
    | 4 => exact .inr rfl
    | _ + 5 => exact .inr rfl
  | 4 =>
    match i with
    | 4 => exact .inl rfl
    | 0 => exact .inr rfl
    | 1 => exact .inr rfl
    | 2 => exact .inr rfl
    | 3 => exact .inr rfl
    | _ + 5 => exact .inr rfl
  | _ + 5 =>
    match i with
    | _ + 5 => exact .inl rfl
    | 0 => exact .inr rfl
    | 1 => exact .inr rfl
    | 2 => exact .inr rfl
    | 3 => exact .inr rfl
    | 4 => exact .inr rfl
theorem pls_setS (s : St) (t i : Nat) (p : Bu) : plS (setS s t p) i = plS s i := by
  unfold setS
  split <;> rfl
theorem setS_hd (s : St) (t : Nat) (p : Bu) : (setS s t p).fr = s.fr ∧ (setS s t p).di = s.di ∧ (setS s t p).rd = s.rd ∧ (setS s t p).lf = s.lf := by
  unfold setS
  split <;> exact ⟨rfl, rfl, rfl, rfl⟩
theorem setP_hd (s : St) (t : Nat) (p : Pl) : (setP s t p).fr = s.fr ∧ (setP s t p).di = s.di ∧ (setP s t p).rd = s.rd ∧ (setP s t p).lf = s.lf := by
  unfold setP
  split <;> exact ⟨rfl, rfl, rfl, rfl⟩
theorem Ty.setP {s : St} (h : Ty s) (t : Nat) {p : Pl} (hp : tpP p) : Ty (setP s t p) := by
  obtain ⟨e1, e2, e3, e4⟩ := setP_hd s t p
  refine ⟨by rw [e1]; exact h.fr, by rw [e2]; exact h.di, by rw [e3]; exact h.rd, by rw [e4]; exact h.lf, fun i => ?_, fun i => by rw [shs_setP]; exact h.sh i⟩
  rcases pls_setP s t i p with e | e <;> rw [e]
  · exact hp
  · exact h.pl i
theorem Ty.setS {s : St} (h : Ty s) (t : Nat) {p : Bu} (hp : tpB p) : Ty (setS s t p) := by
  obtain ⟨e1, e2, e3, e4⟩ := setS_hd s t p
  refine ⟨by rw [e1]; exact h.fr, by rw [e2]; exact h.di, by rw [e3]; exact h.rd, by rw [e4]; exact h.lf, fun i => by rw [pls_setS]; exact h.pl i, fun i => ?_⟩
  rcases shs_setS s t i p with e | e <;> rw [e]
  · exact hp
  · exact h.sh i
theorem ty_fr {k : Bool} {q : W} (h : Ty q.1) : Ty (frW k q).1 := ⟨i64_R _, h.di, h.rd, h.lf, h.pl, h.sh⟩
theorem ty_di {k : Bool} {q : W} (h : Ty q.1) : Ty (diW k q).1 := ⟨h.fr, u32_R _, h.rd, h.lf, h.pl, h.sh⟩
theorem ty_rl {k : Bool} {q : W} (h : Ty q.1) : Ty (rlW k q).1 := ⟨h.fr, h.di, i64_R _, i64_R _, h.pl, h.sh⟩
theorem ty_pv {k : Bool} {t : Nat} {q : W} (h : Ty q.1) : Ty (pvW k t q).1 := h.setP t ⟨⟨i32_R _, i32_R _, i32_R _, i32_R _⟩, (h.pl t).2⟩
theorem ty_pn {k : Bool} {t : Nat} {q : W} (h : Ty q.1) : Ty (pnW k t q).1 := h.setP t ⟨(h.pl t).1, i64_R _, i64_R _, i64_R _, i64_R _, i64_R _, i64_R _⟩
theorem ty_sv {k : Bool} {t : Nat} {q : W} (h : Ty q.1) : Ty (svW k t q).1 := h.setS t ⟨⟨i32_R _, i32_R _, i32_R _, i32_R _⟩, (h.sh t).2⟩
theorem ty_sn {k : Bool} {t : Nat} {q : W} (h : Ty q.1) : Ty (snW k t q).1 := h.setS t ⟨(h.sh t).1, i64_R _, i64_R _⟩
theorem ty_s {k : Bool} {n t : Nat} {q : W} (h : Ty q.1) : Ty (sW k n q t).1 := by
  unfold sW
  split
  · exact h
  · exact ty_sn (ty_sv h)
theorem ty_ss {k : Bool} {n : Nat} {q : W} (h : Ty q.1) : ∀ t, Ty (sWs k n q t).1
  | 0 => h
  | t + 1 => ty_s (ty_ss h t)
theorem ty_ps {k : Bool} {q : W} (h : Ty q.1) : ∀ t, Ty (psW k q t).1
  | 0 => h
  | t + 1 => ty_pn (ty_pv (ty_ps h t))
theorem ty_head {k : Bool} {q : W} (h : Ty q.1) : Ty (headW k q).1 := ty_ps (ty_rl (ty_di (ty_fr h))) 2
theorem ty_walk {k : Bool} {q : W} (h : Ty q.1) : Ty (walkW k q).1 := by
  have h1 := ty_head (k := k) h
  unfold walkW
  generalize headW k q = z at h1 ⊢
  exact ty_ss (q := (z.1, (nxB k z.2 (bitsN z.1)).2)) h1 6

theorem wrap_i64 {n : Int} (h : R64 n) : IntKind.i64.wrap n = n := by
  unfold R64 at h
  rw [IntKind.wrap_i64]
  omega
theorem wrap_i32 {n : Int} (h : R32 n) : IntKind.i32.wrap n = n := by
  unfold R32 at h
  rw [IntKind.wrap_i32]
  omega
theorem wrap_u32 {n : Int} (h : 0 ≤ n ∧ n ≤ 4294967295) : IntKind.u32.wrap n = n := by
  rw [IntKind.wrap_u32]
  omega

end Go.Proofs.Ythbncbdnpeglfaa.Fz
