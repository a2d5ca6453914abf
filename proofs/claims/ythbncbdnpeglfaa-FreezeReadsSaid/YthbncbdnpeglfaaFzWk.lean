/- Walkers (layer 13, freeze). -/
import Derived.Test.YthbncbdnpeglfaaFzWr
namespace Go.Proofs.Ythbncbdnpeglfaa.Fz
open Go.RowKit
open Go.Proofs.Ythbncbdnpeglfaa.Ev (At)
open Go.Proofs.Ythbncbdnpeglfaa.Gm (hid Pl Bu St plC buC stC zeroP zeroB zeroS plS setP shS setS)
open Go.Proofs.Ythbncbdnpeglfaa.Pk (numL rdN sgnN unsN rd_num num_lt num_pos rd_back rd_bd uns_sgn sgn_uns sgn_bd uns_bd num_len10)
set_option linter.unusedVariables false

theorem size_set (W : World) (a : Addr) (u : Value) : (W.setCell a u).heap.size = W.heap.size := by simp [World.setCell]
/-- the call's own block q is a walker (false: a writer that told these bytes; true: a reader that has these bytes yet to read). -/
def Wk (k : Bool) (n q : Nat) (σ : List UInt8) (w : World) : Prop := n ≤ w.heap.size ∧ n ≤ q ∧ (if k then At w q #[.string ⟨σ.toArray⟩] 70 else Bld n q σ w)
/-- what a walker's step keeps: all below n, and all that lies elsewhere and is no row of bytes. -/
structure Ks (n q : Nat) (w w' : World) : Prop where
  old : Below n w w'
  oth : ∀ c cs T, At w c cs T → c ≠ q → T ≠ 5 → At w' c cs T
theorem Ks.refl (n q : Nat) (w : World) : Ks n q w w := ⟨Below.refl _ _, fun _ _ _ h _ _ => h⟩
theorem Ks.trans {n q : Nat} {a b c : World} (h : Ks n q a b) (k : Ks n q b c) : Ks n q a c := ⟨h.old.trans k.old, fun i cs T x e1 e2 => k.oth i cs T (h.oth i cs T x e1 e2) e1 e2⟩
theorem Ks.ofBelow {n q : Nat} {w w' : World} (hn : n ≤ w.heap.size) (h : Below w.heap.size w w') : Ks n q w w' := ⟨h.mono hn, fun c cs T x _ _ => x.below h⟩
theorem wk_w {n q : Nat} {σ : List UInt8} {w : World} (h : Wk false n q σ w) : Bld n q σ w := h.2.2
theorem wk_r {n q : Nat} {σ : List UInt8} {w : World} (h : Wk true n q σ w) : At w q #[.string ⟨σ.toArray⟩] 70 := h.2.2
theorem Wk.below {k : Bool} {n q : Nat} {σ : List UInt8} {w w' : World} (h : Wk k n q σ w) (g : Below w.heap.size w w') : Wk k n q σ w' := by
  refine ⟨Nat.le_trans h.1 g.size, h.2.1, ?_⟩
  cases k
  · exact bld_below (wk_w h) g
  · exact (wk_r h).below g
theorem Wk.ne {k : Bool} {n q c : Nat} {σ : List UInt8} {w : World} {cs : Array Value} {T : TypeId} (h : Wk k n q σ w) (x : At w c cs T) (h1 : T ≠ 58) (h2 : T ≠ 70) : c ≠ q := by
  intro e
  subst e
  have hx : w.heap[c]? = some (.cells cs T (0, 0)) := x
  cases k
  · rcases wk_w h with ⟨_, v, hb, _⟩ | ⟨_, v, hb, _⟩
    · have := hx.symm.trans hb
      simp at this
      exact h1 this.2
    · have := hx.symm.trans hb
      simp at this
      exact h1 this.2
  · have hb : w.heap[c]? = some (.cells #[.string ⟨σ.toArray⟩] 70 (0, 0)) := wk_r h
    have := hx.symm.trans hb
    simp at this
    exact h2 this.2
theorem Wk.far {k : Bool} {n q c : Nat} {σ : List UInt8} {w : World} {cs : Array Value} {T : TypeId} (h : Wk k n q σ w) (x : At w c cs T) (h1 : T ≠ 58) (h2 : T ≠ 70) (h3 : T ≠ 5) (j : Nat) (v : Value) : Wk k n q σ (w.setCell ⟨c, j, none⟩ v) := by
  have hn := h.ne x h1 h2
  refine ⟨by rw [size_set]; exact h.1, h.2.1, ?_⟩
  cases k
  · exact bld_far (wk_w h) x h3 (Ne.symm hn) j v
  · exact at_far (wk_r h) (Ne.symm hn) v
theorem Ks.setq {n q : Nat} {w w' : World} (h : Ks n q w w') (hq : n ≤ q) (j : Nat) (v : Value) : Ks n q w (w'.setCell ⟨q, j, none⟩ v) :=
  ⟨h.old.setCell (p := ⟨q, j, none⟩) hq v, fun c cs T x e1 e2 => at_far (h.oth c cs T x e1 e2) e1 v⟩
theorem Ks.kept {n q : Nat} {w w' : World} (h : Below n w w') (k : Kept q w w') : Ks n q w w' :=
  ⟨h, fun c cs T x e1 e2 => k c _ x (fun e => e1 (by simpa using e)) (fun c' fz e => e2 (by simp at e; exact e.2.1))⟩
theorem cut_str (σ : List UInt8) (k : Nat) : (⟨σ.toArray⟩ : ByteArray).extract k (⟨σ.toArray⟩ : ByteArray).size = ⟨(σ.drop k).toArray⟩ := by
  apply ByteArray.ext
  apply Array.ext'
  rw [ByteArray.data_extract, Array.toList_extract, Lib.size_eq]
  simp only [List.extract_eq_take_drop]
  rw [List.take_of_length_le (by rw [List.length_drop]; exact Nat.le_refl _)]
theorem put_str {w : World} {q : Nat} {v : Value} {T : TypeId} (h : At w q #[v] T) (u : Value) : At (w.setCell ⟨q, 0, none⟩ u) q #[u] T := heap_setCell_same w q 0 _ _ u h

theorem num_w (n q : Nat) (σ : List UInt8) (y : Int) (x : Nat) (w : World) (hy : y = (x : Int)) (h : Wk false n q σ w) (hx : x < 18446744073709551616) (hl : σ.length ≤ 1073741824) :
    Calls Try.prog 72 #[.pointer (some ⟨q, 0, none⟩), .int .u64 y] w fun e w' => e = .returned (.int .u64 ((nxN false σ x).1 : Int)) ∧ Wk false n q (nxN false σ x).2 w' ∧ Ks n q w w' := by
  subst hy
  refine (wnum_c n q σ x w (wk_w h) hx hl h.1).mono ?_
  rintro e w' ⟨rfl, h1, h2, h3⟩
  exact ⟨rfl, ⟨Nat.le_trans h.1 h2.size, h.2.1, h1⟩, Ks.kept h2 h3⟩
theorem num_r (n q : Nat) (σ : List UInt8) (y : Int) (x : Nat) (w : World) (hy : y = (x : Int)) (h : Wk true n q σ w) (hx : x < 18446744073709551616) (hl : σ.length ≤ 1073741824) :
    Calls Try.prog 82 #[.pointer (some ⟨q, 0, none⟩), .int .u64 y] w fun e w' => e = .returned (.int .u64 ((nxN true σ x).1 : Int)) ∧ Wk true n q (nxN true σ x).2 w' ∧ Ks n q w w' := by
  refine (rnum_c q ⟨σ.toArray⟩ y w (wk_r h) (by rw [Lib.size_eq]; exact hl)).mono ?_
  rintro e w' ⟨rfl, rfl⟩
  rw [cut_str]
  exact ⟨rfl, ⟨by rw [size_set]; exact h.1, h.2.1, put_str (wk_r h) _⟩, (Ks.refl n q w).setq h.2.1 0 _⟩
theorem sgn_w (n q : Nat) (σ : List UInt8) (x : Int) (w : World) (h : Wk false n q σ w) (h0 : -9223372036854775808 ≤ x) (h1 : x ≤ 9223372036854775807) (hl : σ.length ≤ 1073741824) :
    Calls Try.prog 73 #[.pointer (some ⟨q, 0, none⟩), .int .i64 x] w fun e w' => e = .returned (.int .i64 (nxZ false σ x).1) ∧ Wk false n q (nxZ false σ x).2 w' ∧ Ks n q w w' := by
  refine (wsgn_c n q σ x w (wk_w h) h0 h1 hl h.1).mono ?_
  rintro e w' ⟨rfl, h1, h2, h3⟩
  exact ⟨rfl, ⟨Nat.le_trans h.1 h2.size, h.2.1, h1⟩, Ks.kept h2 h3⟩
theorem sgn_r (n q : Nat) (σ : List UInt8) (x : Int) (w : World) (h : Wk true n q σ w) (h0 : -9223372036854775808 ≤ x) (h1 : x ≤ 9223372036854775807) (hl : σ.length ≤ 1073741824) :
    Calls Try.prog 83 #[.pointer (some ⟨q, 0, none⟩), .int .i64 x] w fun e w' => e = .returned (.int .i64 (nxZ true σ x).1) ∧ Wk true n q (nxZ true σ x).2 w' ∧ Ks n q w w' := by
  refine (rsgn_c q ⟨σ.toArray⟩ x w (wk_r h) (by rw [Lib.size_eq]; exact hl)).mono ?_
  rintro e w' ⟨rfl, rfl⟩
  rw [cut_str]
  exact ⟨rfl, ⟨by rw [size_set]; exact h.1, h.2.1, put_str (wk_r h) _⟩, (Ks.refl n q w).setq h.2.1 0 _⟩
theorem bits_w (n q : Nat) (σ : List UInt8) (y : Int) (x : Nat) (w : World) (hy : y = (x : Int)) (h : Wk false n q σ w) (hx : x < 256) (hl : σ.length ≤ 1073741824) :
    Calls Try.prog 71 #[.pointer (some ⟨q, 0, none⟩), .int .u8 y] w fun e w' => e = .returned (.int .u8 ((nxB false σ x).1 : Int)) ∧ Wk false n q (nxB false σ x).2 w' ∧ Ks n q w w' := by
  subst hy
  have hc : (UInt8.ofNat x).toNat = x := by simp; omega
  have H := wbits_c n q σ (UInt8.ofNat x) w (wk_w h) hl h.1
  rw [hc] at H
  refine H.mono ?_
  rintro e w' ⟨rfl, h1, h2, h3⟩
  exact ⟨rfl, ⟨Nat.le_trans h.1 h2.size, h.2.1, h1⟩, Ks.kept h2 h3⟩
theorem bits_r (n q : Nat) (σ : List UInt8) (y : Int) (x : Nat) (w : World) (hy : y = (x : Int)) (h : Wk true n q σ w) (hx : x < 256) (hl : σ.length ≤ 1073741824) :
    Calls Try.prog 81 #[.pointer (some ⟨q, 0, none⟩), .int .u8 y] w fun e w' => e = .returned (.int .u8 ((nxB true σ x).1 : Int)) ∧ Wk true n q (nxB true σ x).2 w' ∧ Ks n q w w' := by
  refine (rbits_c q ⟨σ.toArray⟩ y w (wk_r h)).mono ?_
  cases σ with
  | nil =>
    rintro e w' (⟨_, rfl, rfl⟩ | ⟨h0, _, _⟩)
    · exact ⟨rfl, h, Ks.refl _ _ _⟩
    · exact absurd h0 (by decide)
  | cons c r =>
    rintro e w' (⟨h0, _, _⟩ | ⟨_, rfl, rfl⟩)
    · rw [Lib.size_eq] at h0
      simp at h0
    · rw [cut_str]
      exact ⟨rfl, ⟨by rw [size_set]; exact h.1, h.2.1, put_str (wk_r h) _⟩, (Ks.refl n q w).setq h.2.1 0 _⟩

theorem len_N (k : Bool) (σ : List UInt8) (x : Nat) (hx : x < 18446744073709551616) : (nxN k σ x).2.length ≤ σ.length + 10 := by
  cases k
  · show (σ ++ numL x).length ≤ _
    rw [List.length_append]
    have := num_len10 x hx
    omega
  · show (σ.drop _).length ≤ _
    rw [List.length_drop]
    omega
theorem len_Z (k : Bool) (σ : List UInt8) (x : Int) (h0 : -9223372036854775808 ≤ x) (h1 : x ≤ 9223372036854775807) : (nxZ k σ x).2.length ≤ σ.length + 10 := by
  cases k
  · show (σ ++ numL (sgnN x)).length ≤ _
    rw [List.length_append]
    have := num_len10 (sgnN x) (sgn_bd x h0 h1)
    omega
  · show (σ.drop _).length ≤ _
    rw [List.length_drop]
    omega
theorem bd_N (k : Bool) (σ : List UInt8) (x : Nat) (hx : x < 18446744073709551616) : (nxN k σ x).1 < 18446744073709551616 := by
  cases k
  · exact hx
  · exact (rd_bd σ).1
theorem bd_Z (k : Bool) (σ : List UInt8) (x : Int) (h0 : -9223372036854775808 ≤ x) (h1 : x ≤ 9223372036854775807) : -9223372036854775808 ≤ (nxZ k σ x).1 ∧ (nxZ k σ x).1 ≤ 9223372036854775807 := by
  cases k
  · exact ⟨h0, h1⟩
  · exact uns_bd _ (rd_bd σ).1

end Go.Proofs.Ythbncbdnpeglfaa.Fz
