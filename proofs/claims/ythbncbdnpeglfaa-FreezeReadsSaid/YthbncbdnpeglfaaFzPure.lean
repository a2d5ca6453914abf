/- What is written of a state that may be, and what is read from it (layer 13, freeze). -/
import Derived.Test.YthbncbdnpeglfaaFzMath
import Derived.Test.YthbncbdnpeglfaaFyGood
namespace Go.Proofs.Ythbncbdnpeglfaa.Fz
open Go.RowKit
open Go.Proofs.Ythbncbdnpeglfaa.Gm (Pl Bu St plC buC stC zeroP zeroB zeroS plS setP shS setS rightS playB freeB flyB numsB)
open Go.Proofs.Ythbncbdnpeglfaa.Sh (In32 insideB)
open Go.Proofs.Ythbncbdnpeglfaa.Pk (numL rdN sgnN unsN rd_num num_lt num_pos rd_back uns_sgn sgn_uns sgn_bd)
set_option linter.unusedVariables false

/-- what a walker does with these bytes: a writer puts them behind what it told, a reader takes them off what it has to read. -/
def eff (k : Bool) (σ B σ' : List UInt8) : Prop := if k then σ = B ++ σ' else σ' = σ ++ B
theorem eff_parts {k : Bool} {σ A B σ' : List UInt8} (h : eff k σ (A ++ B) σ') : ∃ τ, eff k σ A τ ∧ eff k τ B σ' := by
  cases k
  · have h : σ' = σ ++ (A ++ B) := h
    exact ⟨σ ++ A, rfl, by show σ' = σ ++ A ++ B; rw [h, List.append_assoc]⟩
  · have h : σ = A ++ B ++ σ' := h
    exact ⟨B ++ σ', by show σ = A ++ (B ++ σ'); rw [h, List.append_assoc], rfl⟩
theorem eff_nil {k : Bool} {σ σ' : List UInt8} (h : eff k σ [] σ') : σ' = σ := by
  cases k
  · have h : σ' = σ ++ [] := h
    rw [h, List.append_nil]
  · exact (show σ = [] ++ σ' from h).symm

theorem nxN_k {k : Bool} {σ σ' : List UInt8} {x y : Nat} (hx : k = false → x = y) (hy : y < 18446744073709551616) (h : eff k σ (numL y) σ') : nxN k σ x = (y, σ') := by
  cases k
  · have h : σ' = σ ++ numL y := h
    rw [h, ← hx rfl]; rfl
  · have h : σ = numL y ++ σ' := h
    have e := rd_num y σ' hy
    show ((rdN σ).1, σ.drop (rdN σ).2.1) = _
    rw [h, e]
    show (y, List.drop (numL y).length (numL y ++ σ')) = _
    rw [List.drop_left]
theorem nxZ_k {k : Bool} {σ σ' : List UInt8} {x y : Int} (hx : k = false → x = y) (h0 : -9223372036854775808 ≤ y) (h1 : y ≤ 9223372036854775807) (h : eff k σ (numL (sgnN y)) σ') : nxZ k σ x = (y, σ') := by
  cases k
  · have h : σ' = σ ++ numL (sgnN y) := h
    rw [h, ← hx rfl]; rfl
  · have h : σ = numL (sgnN y) ++ σ' := h
    have e := rd_num (sgnN y) σ' (sgn_bd y h0 h1)
    show (unsN (rdN σ).1, σ.drop (rdN σ).2.1) = _
    rw [h, e]
    show (unsN (sgnN y), List.drop (numL (sgnN y)).length (numL (sgnN y) ++ σ')) = _
    rw [List.drop_left, uns_sgn]
theorem i64_k {k : Bool} {σ σ' : List UInt8} {x y : Int} (hx : k = false → x = y) (h0 : 0 ≤ y) (h1 : y ≤ 9223372036854775807) (h : eff k σ (numB y) σ') : i64W k σ x = (y, σ') := by
  have e := nxN_k (k := k) (σ := σ) (σ' := σ') (x := (x % 18446744073709551616).toNat) (y := y.toNat) (fun hk => by have := hx hk; omega) (by omega) h
  unfold i64W
  rw [e]
  show (IntKind.i64.wrap (y.toNat : Int), σ') = _
  rw [wrap_i64 (show R64 (y.toNat : Int) by unfold R64; omega), Int.toNat_of_nonneg h0]
theorem u32_k {k : Bool} {σ σ' : List UInt8} {x y : Int} (hx : k = false → x = y) (h0 : 0 ≤ y) (h1 : y ≤ 4294967295) (h : eff k σ (numB y) σ') : u32W k σ x = (y, σ') := by
  have e := nxN_k (k := k) (σ := σ) (σ' := σ') (x := (x % 18446744073709551616).toNat) (y := y.toNat) (fun hk => by have := hx hk; omega) (by omega) h
  unfold u32W
  rw [e]
  show (IntKind.u32.wrap (y.toNat : Int), σ') = _
  rw [wrap_u32 (n := (y.toNat : Int)) (by omega), Int.toNat_of_nonneg h0]
theorem i32_k {k : Bool} {σ σ' : List UInt8} {x y : Int} (hx : k = false → x = y) (hy : R32 y) (h : eff k σ (sgnB y) σ') : i32W k σ x = (y, σ') := by
  unfold R32 at hy
  have e := nxZ_k (k := k) (σ := σ) (σ' := σ') (x := x) (y := y) hx (by omega) (by omega) h
  unfold i32W
  rw [e]
  show (IntKind.i32.wrap y, σ') = _
  rw [wrap_i32 hy]
theorem nxB_k {k : Bool} {σ σ' : List UInt8} {x y : Nat} (hx : k = false → x = y) (hy : y < 128) (h : eff k σ (numL y) σ') : nxB k σ x = (y, σ') := by
  rw [num_lt hy] at h
  cases k
  · have h : σ' = σ ++ [UInt8.ofNat y] := h
    rw [h, ← hx rfl]; rfl
  · have h : σ = [UInt8.ofNat y] ++ σ' := h
    subst h
    show ((UInt8.ofNat y).toNat, σ') = _
    congr 1
    simp; omega

/-- what numbers of a player, of a shot that may be are. -/
structure NnP (p : Pl) : Prop where
  ty : tpP p
  fa : 0 ≤ p.fa
  hp : 0 ≤ p.hp
  co : 0 ≤ p.co
  wi : 0 ≤ p.wi
  dn : 0 ≤ p.dn
  sc : 0 ≤ p.sc
structure NnB (x : Bu) : Prop where
  ty : tpB x
  ow : 0 ≤ x.ow
  li : 0 ≤ x.li
structure NnS (s : St) : Prop where
  ty : Ty s
  fr : 0 ≤ s.fr
  rd : 0 ≤ s.rd
  lf : 0 ≤ s.lf
  pl : ∀ t, NnP (plS s t)
  sh : ∀ t, NnB (shS s t)
theorem nn_play {x : Pl} (ht : tpP x) (h : playB x = true) : NnP x := by
  unfold playB Gm.inB at h
  simp only [Bool.and_eq_true, decide_eq_true_eq] at h
  obtain ⟨⟨h1, _⟩, ⟨h2, _⟩, ⟨h3, _⟩, ⟨h4, _⟩, ⟨h5, _⟩, ⟨h6, _⟩, _⟩ := h
  exact ⟨ht, h1, h2, h3, h4, h5, h6⟩
theorem nn_shot {x : Bu} (ht : tpB x) (h : freeB x = true) : NnB x := by
  unfold freeB flyB Gm.inB at h
  simp only [Bool.or_eq_true, Bool.and_eq_true, decide_eq_true_eq] at h
  rcases h with rfl | ⟨⟨h1, _⟩, ⟨h2, _⟩, _⟩
  · exact ⟨ht, by decide, by decide⟩
  · exact ⟨ht, by omega, by omega⟩
theorem right_parts {s : St} (h : rightS s = true) : numsB s = true ∧ (∀ t, playB (plS s t) = true) ∧ (∀ t, freeB (shS s t) = true) := by
  unfold rightS at h
  simp only [Bool.and_eq_true] at h
  obtain ⟨h1, ⟨h2, h3⟩, ⟨⟨⟨⟨h4, h5⟩, h6⟩, h7⟩, h8⟩, h9⟩ := h
  refine ⟨h1, fun t => ?_, fun t => ?_⟩
  · unfold plS
    split
    · exact h2
    · exact h3
  · unfold shS
    split
    · exact h4
    · exact h5
    · exact h6
    · exact h7
    · exact h8
    · exact h9
theorem nn_state {s : St} (ht : Ty s) (h : rightS s = true) : NnS s := by
  obtain ⟨h1, h2, h3⟩ := right_parts h
  unfold numsB Gm.inB at h1
  simp only [Bool.and_eq_true, decide_eq_true_eq] at h1
  exact ⟨ht, h1.1.1, h1.2.1.1, by omega, fun t => nn_play (ht.pl t) (h2 t), fun t => nn_shot (ht.sh t) (h3 t)⟩

theorem plV_k {k : Bool} {σ σ' : List UInt8} {p q : Pl} (hq : k = false → q = p) (hp : NnP p) (h : eff k σ (vecB p.ax p.ay ++ vecB p.vx p.vy) σ') : plV k (q, σ) = (⟨p.ax, p.ay, p.vx, p.vy, q.fa, q.hp, q.co, q.wi, q.dn, q.sc⟩, σ') := by
  obtain ⟨τ, h, h'⟩ := eff_parts h
  obtain ⟨τ1, h1, h2⟩ := eff_parts h
  obtain ⟨τ3, h3, h4⟩ := eff_parts h'
  have T := hp.ty.1
  have e1 := i32_k (k := k) (x := q.ax) (fun hk => by rw [hq hk]) T.1 h1
  have e2 := i32_k (k := k) (x := q.ay) (fun hk => by rw [hq hk]) T.2.1 h2
  have e3 := i32_k (k := k) (x := q.vx) (fun hk => by rw [hq hk]) T.2.2.1 h3
  have e4 := i32_k (k := k) (x := q.vy) (fun hk => by rw [hq hk]) T.2.2.2 h4
  simp only [plV, e1, e2, e3, e4]
theorem plN_k {k : Bool} {σ σ' : List UInt8} {p q : Pl} (hq : k = false → q.fa = p.fa ∧ q.hp = p.hp ∧ q.co = p.co ∧ q.wi = p.wi ∧ q.dn = p.dn ∧ q.sc = p.sc) (hp : NnP p)
    (h : eff k σ (numB p.fa ++ numB p.hp ++ numB p.co ++ numB p.wi ++ numB p.dn ++ numB p.sc) σ') : plN k (q, σ) = (⟨q.ax, q.ay, q.vx, q.vy, p.fa, p.hp, p.co, p.wi, p.dn, p.sc⟩, σ') := by
  obtain ⟨τ5, h, h6⟩ := eff_parts h
  obtain ⟨τ4, h, h5⟩ := eff_parts h
  obtain ⟨τ3, h, h4⟩ := eff_parts h
  obtain ⟨τ2, h, h3⟩ := eff_parts h
  obtain ⟨τ1, h1, h2⟩ := eff_parts h
  have T := hp.ty.2
  have e1 := i64_k (k := k) (x := q.fa) (fun hk => (hq hk).1) hp.fa T.1.2 h1
  have e2 := i64_k (k := k) (x := q.hp) (fun hk => (hq hk).2.1) hp.hp T.2.1.2 h2
  have e3 := i64_k (k := k) (x := q.co) (fun hk => (hq hk).2.2.1) hp.co T.2.2.1.2 h3
  have e4 := i64_k (k := k) (x := q.wi) (fun hk => (hq hk).2.2.2.1) hp.wi T.2.2.2.1.2 h4
  have e5 := i64_k (k := k) (x := q.dn) (fun hk => (hq hk).2.2.2.2.1) hp.dn T.2.2.2.2.1.2 h5
  have e6 := i64_k (k := k) (x := q.sc) (fun hk => (hq hk).2.2.2.2.2) hp.sc T.2.2.2.2.2.2 h6
  simp only [plN, e1, e2, e3, e4, e5, e6]
theorem pl_k {k : Bool} {σ σ' : List UInt8} {p q : Pl} (hq : k = false → q = p) (hp : NnP p) (h : eff k σ (plB p) σ') : plN k (plV k (q, σ)) = (p, σ') := by
  unfold plB at h
  rw [List.append_assoc (vecB p.ax p.ay ++ vecB p.vx p.vy), List.append_assoc (vecB p.ax p.ay ++ vecB p.vx p.vy), List.append_assoc (vecB p.ax p.ay ++ vecB p.vx p.vy), List.append_assoc (vecB p.ax p.ay ++ vecB p.vx p.vy), List.append_assoc (vecB p.ax p.ay ++ vecB p.vx p.vy)] at h
  obtain ⟨τ, h1, h2⟩ := eff_parts h
  rw [plV_k hq hp h1, plN_k (fun hk => by rw [hq hk]; exact ⟨rfl, rfl, rfl, rfl, rfl, rfl⟩) hp (by simpa only [List.append_assoc] using h2)]
theorem bu_k {k : Bool} {σ σ' : List UInt8} {p q : Bu} (hq : k = false → q = p) (hp : NnB p) (h : eff k σ (vecB p.ax p.ay ++ vecB p.vx p.vy ++ numB p.ow ++ numB p.li) σ') : buN k (buV' k (q, σ)) = (p, σ') := by
  obtain ⟨τ6, h, h6⟩ := eff_parts h
  obtain ⟨τ5, h, h5⟩ := eff_parts h
  obtain ⟨τ, h, h'⟩ := eff_parts h
  obtain ⟨τ1, h1, h2⟩ := eff_parts h
  obtain ⟨τ3, h3, h4⟩ := eff_parts h'
  have T := hp.ty.1
  have e1 := i32_k (k := k) (x := q.ax) (fun hk => by rw [hq hk]) T.1 h1
  have e2 := i32_k (k := k) (x := q.ay) (fun hk => by rw [hq hk]) T.2.1 h2
  have e3 := i32_k (k := k) (x := q.vx) (fun hk => by rw [hq hk]) T.2.2.1 h3
  have e4 := i32_k (k := k) (x := q.vy) (fun hk => by rw [hq hk]) T.2.2.2 h4
  have e5 := i64_k (k := k) (x := q.ow) (fun hk => by rw [hq hk]) hp.ow hp.ty.2.1.2 h5
  have e6 := i64_k (k := k) (x := q.li) (fun hk => by rw [hq hk]) hp.li hp.ty.2.2.2 h6
  simp only [buN, buV', e1, e2, e3, e4, e5, e6]

theorem set_both (s : St) (t : Nat) (p q : Pl) : setP (setP s t p) t q = setP s t q ∧ plS (setP s t p) t = p := by
  unfold setP plS
  by_cases h : t = 0 <;> simp [h]
theorem set_shot (s : St) (t : Nat) (p q : Bu) : setS (setS s t p) t q = setS s t q ∧ shS (setS s t p) t = p := by
  match t with
  | 0 => exact ⟨rfl, rfl⟩
  | 1 => exact ⟨rfl, rfl⟩
  | 2 => exact ⟨rfl, rfl⟩
  | 3 => exact ⟨rfl, rfl⟩
  | 4 => exact ⟨rfl, rfl⟩
  | _ + 5 => exact ⟨rfl, rfl⟩
theorem ps_k {k : Bool} {σ σ' : List UInt8} {s0 s : St} {t : Nat} (hs : NnP (plS s t)) (hq : k = false → plS s0 t = plS s t) (h : eff k σ (plB (plS s t)) σ') : pnW k t (pvW k t (s0, σ)) = (setP s0 t (plS s t), σ') := by
  have e := pl_k hq hs h
  unfold pnW pvW
  dsimp only
  rw [(set_both _ _ _ zeroP).2, (set_both _ _ _ _).1]
  rw [show (plV k (plS s0 t, σ)) = ((plV k (plS s0 t, σ)).1, (plV k (plS s0 t, σ)).2) from rfl] at e
  rw [e]
/-- the numbers and the players of one state, the shots of another. -/
def mixS (s s0 : St) : St := ⟨s.fr, s.di, s.rd, s.lf, s.p0, s.p1, s0.s0, s0.s1, s0.s2, s0.s3, s0.s4, s0.s5⟩
theorem ps_two (k : Bool) (q : W) : psW k q 2 = pnW k 1 (pvW k 1 (pnW k 0 (pvW k 0 q))) := rfl
theorem head_k {k : Bool} {σ σ' : List UInt8} {s0 s : St} (hs : NnS s) (hq : k = false → s0 = s) (h : eff k σ (headB s) σ') : headW k (s0, σ) = (mixS s s0, σ') := by
  unfold headB at h
  obtain ⟨τ5, h, h6⟩ := eff_parts h
  obtain ⟨τ4, h, h5⟩ := eff_parts h
  obtain ⟨τ3, h, h4⟩ := eff_parts h
  obtain ⟨τ2, h, h3⟩ := eff_parts h
  obtain ⟨τ1, h1, h2⟩ := eff_parts h
  have e1 := i64_k (k := k) (x := s0.fr) (fun hk => by rw [hq hk]) hs.fr hs.ty.fr.2 h1
  have e2 := u32_k (k := k) (x := s0.di) (fun hk => by rw [hq hk]) hs.ty.di.1 hs.ty.di.2 h2
  have e3 := i64_k (k := k) (x := s0.rd) (fun hk => by rw [hq hk]) hs.rd hs.ty.rd.2 h3
  have e4 := i64_k (k := k) (x := s0.lf) (fun hk => by rw [hq hk]) hs.lf hs.ty.lf.2 h4
  have f1 : frW k (s0, σ) = ({ s0 with fr := s.fr }, τ1) := by simp only [frW, e1]
  have f2 : diW k ({ s0 with fr := s.fr }, τ1) = ({ s0 with fr := s.fr, di := s.di }, τ2) := by simp only [diW, e2]
  have f3 : rlW k ({ s0 with fr := s.fr, di := s.di }, τ2) = ({ s0 with fr := s.fr, di := s.di, rd := s.rd, lf := s.lf }, τ4) := by simp only [rlW, e3, e4]
  have g1 := ps_k (k := k) (s0 := { s0 with fr := s.fr, di := s.di, rd := s.rd, lf := s.lf }) (s := s) (t := 0) (hs.pl 0) (fun hk => by rw [hq hk]; try rfl) h5
  have g2 := ps_k (k := k) (s0 := setP { s0 with fr := s.fr, di := s.di, rd := s.rd, lf := s.lf } 0 (plS s 0)) (s := s) (t := 1) (hs.pl 1) (fun hk => by rw [hq hk]; try rfl) h6
  unfold headW
  rw [f1, f2, f3]
  rw [ps_two, g1, g2]
  rfl
theorem bits_lt (s : St) : ∀ t, bitsT s t < 2 ^ t
  | 0 => Nat.zero_lt_succ 0
  | t + 1 => by
    have h := bits_lt s t
    have h1 : bit (shS s t) ≤ 1 := by unfold bit; split <;> omega
    have h2 : 2 ^ t * bit (shS s t) ≤ 2 ^ t * 1 := Nat.mul_le_mul (Nat.le_refl _) h1
    show bitsT s t + 2 ^ t * bit (shS s t) < 2 ^ (t + 1)
    rw [Nat.pow_succ]
    omega
theorem bits_at (s : St) : ∀ t, t < 6 → bitsN s / 2 ^ t % 2 = bit (shS s t) := by
  have b : ∀ x, bit x ≤ 1 := fun x => by unfold bit; split <;> omega
  have h0 := b (shS s 0)
  have h1 := b (shS s 1)
  have h2 := b (shS s 2)
  have h3 := b (shS s 3)
  have h4 := b (shS s 4)
  have h5 := b (shS s 5)
  have e : bitsN s = 0 + 2 ^ 0 * bit (shS s 0) + 2 ^ 1 * bit (shS s 1) + 2 ^ 2 * bit (shS s 2) + 2 ^ 3 * bit (shS s 3) + 2 ^ 4 * bit (shS s 4) + 2 ^ 5 * bit (shS s 5) := rfl
  intro t ht
  rw [e]
  have hh : t = 0 ∨ t = 1 ∨ t = 2 ∨ t = 3 ∨ t = 4 ∨ t = 5 := by omega
  rcases hh with rfl | rfl | rfl | rfl | rfl | rfl <;> omega
theorem set_self {s : St} {t : Nat} {x : Bu} (h : shS s t = x) : setS s t x = s := by
  subst h
  match t with
  | 0 => rfl
  | 1 => rfl
  | 2 => rfl
  | 3 => rfl
  | 4 => rfl
  | _ + 5 => rfl
theorem s_k {k : Bool} {n : Nat} {σ σ' : List UInt8} {s0 s : St} {t : Nat} (hn : n / 2 ^ t % 2 = bit (shS s t)) (hs : NnB (shS s t)) (hq : k = false → shS s0 t = shS s t) (hz : k = true → shS s0 t = zeroB)
    (h : eff k σ (buB (shS s t)) σ') : sW k n (s0, σ) t = (setS s0 t (shS s t), σ') := by
  unfold sW
  rw [hn]
  by_cases hx : shS s t = zeroB
  · have hb : bit (shS s t) = 0 := if_pos hx
    have he : buB (shS s t) = [] := if_pos hx
    rw [he] at h
    rw [if_pos hb, eff_nil h, set_self]
    cases k
    · exact hq rfl
    · rw [hz rfl, hx]
  · have hb : bit (shS s t) = 1 := if_neg hx
    have he : buB (shS s t) = vecB (shS s t).ax (shS s t).ay ++ vecB (shS s t).vx (shS s t).vy ++ numB (shS s t).ow ++ numB (shS s t).li := if_neg hx
    rw [he] at h
    rw [if_neg (by rw [hb]; decide)]
    have e := bu_k hq hs h
    unfold snW svW
    dsimp only
    rw [(set_shot _ _ _ zeroB).2, (set_shot _ _ _ _).1]
    rw [show (buV' k (shS s0 t, σ)) = ((buV' k (shS s0 t, σ)).1, (buV' k (shS s0 t, σ)).2) from rfl] at e
    rw [e]
theorem beh_parts {k : Bool} {σ σ' : List UInt8} {s : St} {t : Nat} (h : eff k σ (behB s (t + 1)) σ') : ∃ τ, eff k σ (behB s t) τ ∧ eff k τ (buB (shS s t)) σ' := eff_parts h

theorem ss_six (k : Bool) (n : Nat) (q : W) : sWs k n q 6 = sW k n (sW k n (sW k n (sW k n (sW k n (sW k n q 0) 1) 2) 3) 4) 5 := rfl
theorem set_0 (a b c d : Int) (p q : Pl) (x0 x1 x2 x3 x4 x5 x : Bu) : setS ⟨a, b, c, d, p, q, x0, x1, x2, x3, x4, x5⟩ 0 x = ⟨a, b, c, d, p, q, x, x1, x2, x3, x4, x5⟩ := rfl
theorem sh_0 (s : St) : shS s 0 = s.s0 := rfl
theorem set_1 (a b c d : Int) (p q : Pl) (x0 x1 x2 x3 x4 x5 x : Bu) : setS ⟨a, b, c, d, p, q, x0, x1, x2, x3, x4, x5⟩ 1 x = ⟨a, b, c, d, p, q, x0, x, x2, x3, x4, x5⟩ := rfl
theorem sh_1 (s : St) : shS s 1 = s.s1 := rfl
theorem set_2 (a b c d : Int) (p q : Pl) (x0 x1 x2 x3 x4 x5 x : Bu) : setS ⟨a, b, c, d, p, q, x0, x1, x2, x3, x4, x5⟩ 2 x = ⟨a, b, c, d, p, q, x0, x1, x, x3, x4, x5⟩ := rfl
theorem sh_2 (s : St) : shS s 2 = s.s2 := rfl
theorem set_3 (a b c d : Int) (p q : Pl) (x0 x1 x2 x3 x4 x5 x : Bu) : setS ⟨a, b, c, d, p, q, x0, x1, x2, x3, x4, x5⟩ 3 x = ⟨a, b, c, d, p, q, x0, x1, x2, x, x4, x5⟩ := rfl
theorem sh_3 (s : St) : shS s 3 = s.s3 := rfl
theorem set_4 (a b c d : Int) (p q : Pl) (x0 x1 x2 x3 x4 x5 x : Bu) : setS ⟨a, b, c, d, p, q, x0, x1, x2, x3, x4, x5⟩ 4 x = ⟨a, b, c, d, p, q, x0, x1, x2, x3, x, x5⟩ := rfl
theorem sh_4 (s : St) : shS s 4 = s.s4 := rfl
theorem set_5 (a b c d : Int) (p q : Pl) (x0 x1 x2 x3 x4 x5 x : Bu) : setS ⟨a, b, c, d, p, q, x0, x1, x2, x3, x4, x5⟩ 5 x = ⟨a, b, c, d, p, q, x0, x1, x2, x3, x4, x⟩ := rfl
theorem sh_5 (s : St) : shS s 5 = s.s5 := rfl
theorem mix_all (s s0 : St) : setS (setS (setS (setS (setS (setS (mixS s s0) 0 (shS s 0)) 1 (shS s 1)) 2 (shS s 2)) 3 (shS s 3)) 4 (shS s 4)) 5 (shS s 5) = s := by
  rw [show mixS s s0 = ⟨s.fr, s.di, s.rd, s.lf, s.p0, s.p1, s0.s0, s0.s1, s0.s2, s0.s3, s0.s4, s0.s5⟩ from rfl, set_0, set_1, set_2, set_3, set_4, set_5, sh_0, sh_1, sh_2, sh_3, sh_4, sh_5]
set_option maxHeartbeats 1000000 in
theorem walk_k {k : Bool} {σ σ' : List UInt8} {s0 s : St} (hs : NnS s) (hq : k = false → s0 = s) (hz : k = true → ∀ t, shS s0 t = zeroB) (h : eff k σ (bytesS s) σ') : walkW k (s0, σ) = (s, σ') := by
  unfold bytesS at h
  obtain ⟨τ1, ha, hb6⟩ := eff_parts h
  obtain ⟨τ2, hh, hn⟩ := eff_parts ha
  obtain ⟨u5, hb5, h5⟩ := beh_parts hb6
  obtain ⟨u4, hb4, h4⟩ := beh_parts hb5
  obtain ⟨u3, hb3, h3⟩ := beh_parts hb4
  obtain ⟨u2, hb2, h2⟩ := beh_parts hb3
  obtain ⟨u1, hb1, h1⟩ := beh_parts hb2
  obtain ⟨u0, hb0, h0⟩ := beh_parts hb1
  have hu := eff_nil hb0
  subst hu
  have e := head_k hs hq hh
  have en := nxB_k (k := k) (σ := τ2) (x := bitsN (mixS s s0)) (y := bitsN s) (fun hk => by rw [hq hk]; rfl) (Nat.lt_of_lt_of_le (bits_lt s 6) (by decide)) hn
  unfold walkW
  rw [e]
  dsimp only
  rw [en]
  dsimp only
  have hm : ∀ t, shS (mixS s s0) t = shS s0 t := fun t => by unfold shS; split <;> rfl
  have q : k = false → ∀ t, shS s0 t = shS s t := fun hk t => by rw [hq hk]
  have g0 := s_k (k := k) (s0 := mixS s s0) (bits_at s 0 (by decide)) (hs.sh 0) (fun hk => (hm 0).trans (q hk 0)) (fun hk => (hm 0).trans (hz hk 0)) h0
  have g1 := s_k (k := k) (s0 := setS (mixS s s0) 0 (shS s 0)) (bits_at s 1 (by decide)) (hs.sh 1) (fun hk => (hm 1).trans (q hk 1)) (fun hk => (hm 1).trans (hz hk 1)) h1
  have g2 := s_k (k := k) (s0 := setS (setS (mixS s s0) 0 (shS s 0)) 1 (shS s 1)) (bits_at s 2 (by decide)) (hs.sh 2) (fun hk => (hm 2).trans (q hk 2)) (fun hk => (hm 2).trans (hz hk 2)) h2
  have g3 := s_k (k := k) (s0 := setS (setS (setS (mixS s s0) 0 (shS s 0)) 1 (shS s 1)) 2 (shS s 2)) (bits_at s 3 (by decide)) (hs.sh 3) (fun hk => (hm 3).trans (q hk 3)) (fun hk => (hm 3).trans (hz hk 3)) h3
  have g4 := s_k (k := k) (s0 := setS (setS (setS (setS (mixS s s0) 0 (shS s 0)) 1 (shS s 1)) 2 (shS s 2)) 3 (shS s 3)) (bits_at s 4 (by decide)) (hs.sh 4) (fun hk => (hm 4).trans (q hk 4)) (fun hk => (hm 4).trans (hz hk 4)) h4
  have g5 := s_k (k := k) (s0 := setS (setS (setS (setS (setS (mixS s s0) 0 (shS s 0)) 1 (shS s 1)) 2 (shS s 2)) 3 (shS s 3)) 4 (shS s 4)) (bits_at s 5 (by decide)) (hs.sh 5) (fun hk => (hm 5).trans (q hk 5)) (fun hk => (hm 5).trans (hz hk 5)) h5
  rw [ss_six, g0, g1, g2, g3, g4, g5, mix_all]

/-- a writer tells a state's bytes; a reader has the state of its bytes. -/
theorem written {s : St} (hs : NnS s) : walkW false (s, []) = (s, bytesS s) := walk_k hs (fun _ => rfl) (fun h => absurd h (by decide)) (show bytesS s = [] ++ bytesS s by simp)
theorem read_all {s : St} (hs : NnS s) : walkW true (zeroS, bytesS s) = (s, []) := walk_k hs (fun h => absurd h (by decide)) (fun _ t => by unfold shS; split <;> rfl) (show bytesS s = bytesS s ++ [] by simp)
theorem bytes_inj {s x : St} (hs : NnS s) (hx : NnS x) (h : bytesS s = bytesS x) : s = x := by
  have a := read_all hs
  rw [h, read_all hx] at a
  exact (congrArg Prod.fst a).symm

/-- the state whose bytes they are. -/
def unpR (σ : List UInt8) : Option St := if rightS (walkW true (zeroS, σ)).1 = true ∧ bytesS (walkW true (zeroS, σ)).1 = σ then some (walkW true (zeroS, σ)).1 else none
theorem ty_zero : Ty zeroS := by
  have hp : tpP zeroP := by unfold tpP tpV R32 R64; decide
  have hb : tpB zeroB := by unfold tpB tpV R32 R64; decide
  refine ⟨by unfold R64; decide, by decide, by unfold R64; decide, by unfold R64; decide, fun t => ?_, fun t => ?_⟩
  · unfold plS
    split
    · exact hp
    · exact hp
  · unfold shS
    split <;> exact hb
theorem unp_yes {s : St} {σ : List UInt8} (ht : Ty s) (hs : rightS s = true) (h : bytesS s = σ) : unpR σ = some s := by
  subst h
  unfold unpR
  rw [read_all (nn_state ht hs)]
  exact if_pos ⟨hs, rfl⟩
theorem unp_some {s : St} {σ : List UInt8} (h : unpR σ = some s) : rightS s = true ∧ bytesS s = σ ∧ Ty s ∧ (walkW true (zeroS, σ)).1 = s := by
  unfold unpR at h
  split at h
  · rename_i h1
    have e := Option.some.inj h
    exact ⟨e ▸ h1.1, e ▸ h1.2, e ▸ ty_walk (q := (zeroS, σ)) ty_zero, e⟩
  · exact absurd h (by simp)
theorem unp_none {σ : List UInt8} (h : unpR σ = none) : ∀ s, Ty s → rightS s = true → bytesS s ≠ σ := fun s ht hs e => by rw [unp_yes ht hs e] at h; exact absurd h (by simp)
end Go.Proofs.Ythbncbdnpeglfaa.Fz
