/- What Move returns; the memory of the document's (layer 10, shape). -/
import Derived.Test.YthbncbdnpeglfaaShB
import Derived.Deep.Cut
namespace Go.Proofs.Ythbncbdnpeglfaa.Sh
open Go.RowKit Go.Proofs.Ythbncbdnpeglfaa.Fx Go.Proofs.Ythbncbdnpeglfaa.Tg
set_option linter.unusedVariables false

/-- the memory of a move: its three arguments, and its two answers. -/
def Five (w W : World) (p q u v a b c d : Int) : Prop := At W w.heap.size #[.int .i32 p, .int .i32 q] 25 ∧ At W (w.heap.size + 1) #[.int .i32 u, .int .i32 v] 25 ∧ At W (w.heap.size + 1 + 1) #[.int .i32 a, .int .i32 b, .int .i32 c, .int .i32 d] 66 ∧ At W (w.heap.size + 1 + 1 + 1) #[.int .i32 0, .int .i32 0] 25 ∧ At W (w.heap.size + 1 + 1 + 1 + 1) #[.int .i32 0, .int .i32 0] 25 ∧ Below w.heap.size w W
theorem At.newAt (w : World) (cs : Array Value) (T : TypeId) (n : Nat) (h : w.heap.size = n) : At (w.alloc (.cells cs T)) n cs T := by subst h; exact At.new w cs T
theorem five_new (w : World) (p q u v a b c d : Int) : Five w (((((w.alloc (.cells #[.int .i32 p, .int .i32 q] 25)).alloc (.cells #[.int .i32 u, .int .i32 v] 25)).alloc (.cells #[.int .i32 a, .int .i32 b, .int .i32 c, .int .i32 d] 66)).alloc (.cells #[.int .i32 0, .int .i32 0] 25)).alloc (.cells #[.int .i32 0, .int .i32 0] 25)) p q u v a b c d :=
  ⟨((((At.new w _ _).more _).more _).more _).more _, (((At.newAt _ _ _ _ (by simp)).more _).more _).more _, ((At.newAt _ _ _ _ (by simp)).more _).more _, (At.newAt _ _ _ _ (by simp)).more _, At.newAt _ _ _ _ (by simp), bal (bal (bal (bal (bal (br w) _) _) _) _) _⟩
theorem Five.below {w W W' : World} {p q u v a b c d : Int} (h : Five w W p q u v a b c d) (hb : Below W.heap.size W W') : Five w W' p q u v a b c d :=
  ⟨h.1.below hb, h.2.1.below hb, h.2.2.1.below hb, h.2.2.2.1.below hb, h.2.2.2.2.1.below hb, bt h.2.2.2.2.2 hb⟩
theorem results_move {fn : Func} (h : fn.results = #[.cell 6 25, .cell 7 25, .tmp 8, .tmp 9]) (tmps : Array Value) (W : World) (b c : Nat) (hp : tmps[6]?.getD undef = .pointer (some ⟨b, 0, none⟩)) (hq : tmps[7]?.getD undef = .pointer (some ⟨c, 0, none⟩)) (v0 v1 u0 u1 : Value) (hA : At W b #[v0, v1] 25) (hC : At W c #[u0, u1] 25) :
    (results fn tmps).run Try.prog W = .ok (.tuple #[.agg #[v0, v1], .agg #[u0, u1], tmps.getD 8 undef, tmps.getD 9 undef]) W := by
  obtain ⟨c0, c1⟩ := hA.two
  obtain ⟨d0, d1⟩ := hC.two
  simp [results, h, hp, hq, go_sem, c0, c1, d0, d1]
theorem results_rmove {fn : Func} (h : fn.results = #[.cell 6 25, .cell 7 25, .tmp 8]) (tmps : Array Value) (W : World) (b c : Nat) (hp : tmps[6]?.getD undef = .pointer (some ⟨b, 0, none⟩)) (hq : tmps[7]?.getD undef = .pointer (some ⟨c, 0, none⟩)) (v0 v1 u0 u1 : Value) (hA : At W b #[v0, v1] 25) (hC : At W c #[u0, u1] 25) :
    (results fn tmps).run Try.prog W = .ok (.tuple #[.agg #[v0, v1], .agg #[u0, u1], tmps.getD 8 undef]) W := by
  obtain ⟨c0, c1⟩ := hA.two
  obtain ⟨d0, d1⟩ := hC.two
  simp [results, h, hp, hq, go_sem, c0, c1, d0, d1]
/-- the walls met, together. -/
def wallI (p q u v a b c d : Int) : Int := mvW p u a c 1 2 + mvW q v b d 4 8
theorem wall_or (p q u v a b c d : Int) : bits .or .i64 (mvW p u a c 1 2) (mvW q v b d 4 8) = wallI p q u v a b c d := by
  unfold wallI mvW
  repeat' split
  all_goals decide

/-- the document's move on its way: block B holds the place. -/
structure Six (w W : World) (B : Nat) (x y u v a b c d : Int) : Prop where
  way : At W (w.heap.size + 1) #[.int .i32 u, .int .i32 v] 25
  walls : At W (w.heap.size + 1 + 1) #[.int .i32 a, .int .i32 b, .int .i32 c, .int .i32 d] 66
  one : At W (w.heap.size + 1 + 1 + 1) #[.int .i32 0, .int .i32 0] 25
  two : At W (w.heap.size + 1 + 1 + 1 + 1) #[.int .i32 0, .int .i32 0] 25
  place : At W B #[.int .i32 x, .int .i32 y] 25
  old : Below w.heap.size w W
  far : w.heap.size + 5 ≤ B
theorem Six.new {w W : World} {p q u v a b c d : Int} (h : Five w W p q u v a b c d) (x y : Int) : Six w (W.alloc (.cells #[.int .i32 x, .int .i32 y] 25)) W.heap.size x y u v a b c d :=
  ⟨h.2.1.more _, h.2.2.1.more _, h.2.2.2.1.more _, h.2.2.2.2.1.more _, At.new _ _ _, bal h.2.2.2.2.2 _, h.2.2.2.2.1.lt⟩
theorem Six.px {w W : World} {B : Nat} {x y u v a b c d : Int} (h : Six w W B x y u v a b c d) (z : Int) : Six w (W.setCell ⟨B, 0, none⟩ (.int .i32 z)) B z y u v a b c d := by
  have := h.far
  exact ⟨h.way.far (by omega) _, h.walls.far (by omega) _, h.one.far (by omega) _, h.two.far (by omega) _, h.place.set0 _, bset h.old (by omega) _ _, h.far⟩
theorem Six.py {w W : World} {B : Nat} {x y u v a b c d : Int} (h : Six w W B x y u v a b c d) (z : Int) : Six w (W.setCell ⟨B, 1, none⟩ (.int .i32 z)) B x z u v a b c d := by
  have := h.far
  exact ⟨h.way.far (by omega) _, h.walls.far (by omega) _, h.one.far (by omega) _, h.two.far (by omega) _, h.place.set1 _, bset h.old (by omega) _ _, h.far⟩
theorem Six.wx {w W : World} {B : Nat} {x y u v a b c d : Int} (h : Six w W B x y u v a b c d) (z : Int) : Six w (W.setCell ⟨w.heap.size + 1, 0, none⟩ (.int .i32 z)) B x y z v a b c d := by
  have := h.far
  exact ⟨h.way.set0 _, h.walls.far (by omega) _, h.one.far (by omega) _, h.two.far (by omega) _, h.place.far (by omega) _, bset h.old (by omega) _ _, h.far⟩
theorem Six.wy {w W : World} {B : Nat} {x y u v a b c d : Int} (h : Six w W B x y u v a b c d) (z : Int) : Six w (W.setCell ⟨w.heap.size + 1, 1, none⟩ (.int .i32 z)) B x y u z a b c d := by
  have := h.far
  exact ⟨h.way.set1 _, h.walls.far (by omega) _, h.one.far (by omega) _, h.two.far (by omega) _, h.place.far (by omega) _, bset h.old (by omega) _ _, h.far⟩

/-- both answers stored. -/
theorem Six.fin {w W : World} {B : Nat} {x y u v a b c d : Int} (h : Six w W B x y u v a b c d) :
    At ((((W.setCell ⟨w.heap.size + 1 + 1 + 1, 0, none⟩ (.int .i32 x)).setCell ⟨w.heap.size + 1 + 1 + 1, 1, none⟩ (.int .i32 y)).setCell ⟨w.heap.size + 1 + 1 + 1 + 1, 0, none⟩ (.int .i32 u)).setCell ⟨w.heap.size + 1 + 1 + 1 + 1, 1, none⟩ (.int .i32 v)) (w.heap.size + 1 + 1 + 1) #[.int .i32 x, .int .i32 y] 25 ∧
    At ((((W.setCell ⟨w.heap.size + 1 + 1 + 1, 0, none⟩ (.int .i32 x)).setCell ⟨w.heap.size + 1 + 1 + 1, 1, none⟩ (.int .i32 y)).setCell ⟨w.heap.size + 1 + 1 + 1 + 1, 0, none⟩ (.int .i32 u)).setCell ⟨w.heap.size + 1 + 1 + 1 + 1, 1, none⟩ (.int .i32 v)) (w.heap.size + 1 + 1 + 1 + 1) #[.int .i32 u, .int .i32 v] 25 ∧
    Below w.heap.size w ((((W.setCell ⟨w.heap.size + 1 + 1 + 1, 0, none⟩ (.int .i32 x)).setCell ⟨w.heap.size + 1 + 1 + 1, 1, none⟩ (.int .i32 y)).setCell ⟨w.heap.size + 1 + 1 + 1 + 1, 0, none⟩ (.int .i32 u)).setCell ⟨w.heap.size + 1 + 1 + 1 + 1, 1, none⟩ (.int .i32 v)) :=
  ⟨(((h.one.set0 _).set1 _).far (by omega) _).far (by omega) _, (((h.two.far (by omega) _).far (by omega) _).set0 _).set1 _, bset (bset (bset (bset h.old (by omega) _ _) (by omega) _ _) (by omega) _ _) (by omega) _ _⟩

end Go.Proofs.Ythbncbdnpeglfaa.Sh
