/- The numbers of a state, and the state of numbers (layer 13, freeze): what the document's Unpack makes. -/
import Derived.Test.YthbncbdnpeglfaaFzRn
namespace Go.Proofs.Ythbncbdnpeglfaa.Fz
open Go.RowKit
open Go.Proofs.Ythbncbdnpeglfaa.Ev (At)
open Go.Proofs.Ythbncbdnpeglfaa.Gm (hid Pl Bu St plC plA buC buA stC zeroP zeroB zeroS plS setP shS setS rightS playB numsB)
open Go.Proofs.Ythbncbdnpeglfaa.Pk (numL rdN rdV sgnN unsN num_pos uns_sgn)
set_option linter.unusedVariables false

def plNs (p : Pl) : List Nat := [sgnN p.ax, sgnN p.ay, sgnN p.vx, sgnN p.vy, p.fa.toNat, p.hp.toNat, p.co.toNat, p.wi.toNat, p.dn.toNat, p.sc.toNat]
def buNs (x : Bu) : List Nat := if x = zeroB then [] else [sgnN x.ax, sgnN x.ay, sgnN x.vx, sgnN x.vy, x.ow.toNat, x.li.toNat]
def remN (s : St) : Nat → List Nat
  | 0 => []
  | j + 1 => buNs (shS s (5 - j)) ++ remN s j
def numsS (s : St) : List Nat := s.fr.toNat :: s.di.toNat :: s.rd.toNat :: s.lf.toNat :: (plNs s.p0 ++ (plNs s.p1 ++ (bitsN s :: remN s 6)))
theorem flat_pl (p : Pl) : flatN (plNs p) = plB p := by
  simp [flatN, plNs, plB, vecB, sgnB, numB, List.append_assoc]
theorem flat_bu (x : Bu) : flatN (buNs x) = buB x := by
  unfold buNs buB
  split
  · rfl
  · simp [flatN, vecB, sgnB, numB, List.append_assoc]
theorem flat_rem (s : St) : flatN (remN s 6) = behB s 6 := by
  have e : remN s 6 = buNs s.s0 ++ (buNs s.s1 ++ (buNs s.s2 ++ (buNs s.s3 ++ (buNs s.s4 ++ (buNs s.s5 ++ []))))) := rfl
  have e2 : behB s 6 = [] ++ buB s.s0 ++ buB s.s1 ++ buB s.s2 ++ buB s.s3 ++ buB s.s4 ++ buB s.s5 := rfl
  rw [e, e2]
  simp only [flat_app, flat_bu, List.append_assoc, List.nil_append]
  rw [show flatN [] = [] from rfl, List.append_nil]
theorem flat_all (s : St) : flatN (numsS s) = bytesS s := by
  unfold numsS bytesS headB
  simp only [flat_cons, flat_app, flat_pl, flat_rem, numB, List.append_assoc]

theorem sgn32 {x : Int} (h : R32 x) : sgnN x ≤ 4294967295 := by
  unfold R32 at h
  unfold sgnN
  split <;> omega
theorem pl_bd {p : Pl} (ht : tpP p) (h : playB p = true) : ∀ n, n ∈ plNs p → n ≤ 4294967295 := by
  unfold Gm.playB Gm.inB at h
  simp only [Bool.and_eq_true, decide_eq_true_eq] at h
  obtain ⟨⟨_, h1⟩, ⟨_, h2⟩, ⟨_, h3⟩, ⟨_, h4⟩, ⟨_, h5⟩, ⟨_, h6⟩, _⟩ := h
  have a := sgn32 ht.1.1
  have b := sgn32 ht.1.2.1
  have c := sgn32 ht.1.2.2.1
  have d := sgn32 ht.1.2.2.2
  intro n hn
  simp only [plNs, List.mem_cons, List.not_mem_nil, or_false] at hn
  rcases hn with rfl | rfl | rfl | rfl | rfl | rfl | rfl | rfl | rfl | rfl <;> omega
theorem bu_bd {x : Bu} (ht : tpB x) (h : Gm.freeB x = true) : ∀ n, n ∈ buNs x → n ≤ 4294967295 := by
  unfold Gm.freeB Gm.flyB Gm.inB at h
  simp only [Bool.or_eq_true, Bool.and_eq_true, decide_eq_true_eq] at h
  have a := sgn32 ht.1.1
  have b := sgn32 ht.1.2.1
  have c := sgn32 ht.1.2.2.1
  have d := sgn32 ht.1.2.2.2
  intro n hn
  unfold buNs at hn
  split at hn
  · simp at hn
  · rename_i hz
    rcases h with h | ⟨⟨_, h1⟩, ⟨_, h2⟩, _⟩
    · exact absurd h hz
    · simp only [List.mem_cons, List.not_mem_nil, or_false] at hn
      rcases hn with rfl | rfl | rfl | rfl | rfl | rfl <;> omega
theorem rem_bd {s : St} (ht : Ty s) (h : ∀ t, Gm.freeB (shS s t) = true) : ∀ j, ∀ n, n ∈ remN s j → n ≤ 4294967295
  | 0, n, hn => by simp [remN] at hn
  | j + 1, n, hn => by
    rcases List.mem_append.1 (show n ∈ buNs (shS s (5 - j)) ++ remN s j from hn) with a | a
    · exact bu_bd (ht.sh _) (h _) n a
    · exact rem_bd ht h j n a
theorem nums_bd {s : St} (ht : Ty s) (hr : rightS s = true) : ∀ n, n ∈ numsS s → n ≤ 4294967295 := by
  obtain ⟨h1, h2, h3⟩ := right_parts hr
  unfold Gm.numsB Gm.inB at h1
  simp only [Bool.and_eq_true, decide_eq_true_eq] at h1
  have hb := bits_lt s 6
  have hd := ht.di
  intro n hn
  unfold numsS at hn
  simp only [List.mem_cons, List.mem_append] at hn
  rcases hn with rfl | rfl | rfl | rfl | hn | hn | rfl | hn
  · omega
  · omega
  · omega
  · omega
  · exact pl_bd (ht.pl 0) (h2 0) n hn
  · exact pl_bd (ht.pl 1) (h2 1) n hn
  · show bitsT s 6 ≤ _; omega
  · exact rem_bd ht h3 6 n hn

/-- what is read of a list. -/
def nt (m : List Nat) (i : Nat) : Nat := m.getD i 0
def plOf (m : List Nat) : Pl := ⟨unsN (nt m 0), unsN (nt m 1), unsN (nt m 2), unsN (nt m 3), (nt m 4 : Int), (nt m 5 : Int), (nt m 6 : Int), (nt m 7 : Int), (nt m 8 : Int), (nt m 9 : Int)⟩
def buOf (m : List Nat) : Bu := ⟨unsN (nt m 0), unsN (nt m 1), unsN (nt m 2), unsN (nt m 3), (nt m 4 : Int), (nt m 5 : Int)⟩
theorem pl_of {p : Pl} (h : NnP p) (t : List Nat) : plOf (plNs p ++ t) = p := by
  obtain ⟨_, h1, h2, h3, h4, h5, h6⟩ := h
  obtain ⟨ax, ay, vx, vy, fa, hp, co, wi, dn, sc⟩ := p
  show (⟨unsN (sgnN ax), unsN (sgnN ay), unsN (sgnN vx), unsN (sgnN vy), ((fa.toNat : Nat) : Int), ((hp.toNat : Nat) : Int), ((co.toNat : Nat) : Int), ((wi.toNat : Nat) : Int), ((dn.toNat : Nat) : Int), ((sc.toNat : Nat) : Int)⟩ : Pl) = _
  rw [uns_sgn, uns_sgn, uns_sgn, uns_sgn, Int.toNat_of_nonneg h1, Int.toNat_of_nonneg h2, Int.toNat_of_nonneg h3, Int.toNat_of_nonneg h4, Int.toNat_of_nonneg h5, Int.toNat_of_nonneg h6]
theorem bu_of {x : Bu} (h : NnB x) (hz : x ≠ zeroB) (t : List Nat) : buOf (buNs x ++ t) = x := by
  obtain ⟨_, h1, h2⟩ := h
  unfold buNs
  rw [if_neg hz]
  obtain ⟨ax, ay, vx, vy, ow, li⟩ := x
  show (⟨unsN (sgnN ax), unsN (sgnN ay), unsN (sgnN vx), unsN (sgnN vy), ((ow.toNat : Nat) : Int), ((li.toNat : Nat) : Int)⟩ : Bu) = _
  rw [uns_sgn, uns_sgn, uns_sgn, uns_sgn, Int.toNat_of_nonneg h1, Int.toNat_of_nonneg h2]
theorem nt_bd {m : List Nat} {M : Nat} (h : ∀ n, n ∈ m → n ≤ M) (i : Nat) : nt m i ≤ M := by
  unfold nt
  rw [List.getD_eq_getElem?_getD]
  cases he : m[i]? with
  | none => exact Nat.zero_le _
  | some x => exact h x (List.mem_of_getElem? he)
theorem nt_at {m : List Nat} {i : Nat} (h : i < m.length) : m[i] = nt m i := by
  unfold nt
  rw [List.getD_eq_getElem?_getD, List.getElem?_eq_getElem h]
  rfl
theorem nt_drop (m : List Nat) (k i : Nat) : nt (m.drop k) i = nt m (k + i) := by
  unfold nt
  rw [List.getD_eq_getElem?_getD, List.getD_eq_getElem?_getD, List.getElem?_drop]
theorem uns32 {n : Nat} (h : n ≤ 4294967295) : R32 (unsN n) := by
  unfold R32 unsN
  split <;> omega
theorem nat64 {n : Nat} (h : n ≤ 4294967295) : R64 (n : Int) := by
  unfold R64
  omega
theorem plOf_ty {m : List Nat} (h : ∀ n, n ∈ m → n ≤ 4294967295) : tpP (plOf m) := by
  have a := fun i => nt_bd h i
  unfold plOf
  generalize nt m = f at a
  exact ⟨⟨uns32 (a 0), uns32 (a 1), uns32 (a 2), uns32 (a 3)⟩, nat64 (a 4), nat64 (a 5), nat64 (a 6), nat64 (a 7), nat64 (a 8), nat64 (a 9)⟩
theorem buOf_ty {m : List Nat} (h : ∀ n, n ∈ m → n ≤ 4294967295) : tpB (buOf m) := by
  have a := fun i => nt_bd h i
  unfold buOf
  generalize nt m = f at a
  exact ⟨⟨uns32 (a 0), uns32 (a 1), uns32 (a 2), uns32 (a 3)⟩, nat64 (a 4), nat64 (a 5)⟩

/-- a state of which so much has been read. -/
def headOf (m : List Nat) : St := ⟨(nt m 0 : Int), (nt m 1 : Int), (nt m 2 : Int), (nt m 3 : Int), zeroP, zeroP, zeroB, zeroB, zeroB, zeroB, zeroB, zeroB⟩
def preP (s : St) : Nat → St
  | 0 => ⟨s.fr, s.di, s.rd, s.lf, zeroP, zeroP, zeroB, zeroB, zeroB, zeroB, zeroB, zeroB⟩
  | k + 1 => setP (preP s k) k (plS s k)
def preS (s : St) (k : Nat) : St := ⟨s.fr, s.di, s.rd, s.lf, s.p0, s.p1, if 0 < k then s.s0 else zeroB, if 1 < k then s.s1 else zeroB, if 2 < k then s.s2 else zeroB, if 3 < k then s.s3 else zeroB, if 4 < k then s.s4 else zeroB, if 5 < k then s.s5 else zeroB⟩
theorem pre_two (s : St) : preP s 2 = preS s 0 := rfl
theorem pre_all (s : St) : preS s 6 = s := rfl
theorem pre_next (s : St) {k : Nat} (hk : k < 6) : setS (preS s k) k (shS s k) = preS s (k + 1) := by
  have hh : k = 0 ∨ k = 1 ∨ k = 2 ∨ k = 3 ∨ k = 4 ∨ k = 5 := by omega
  rcases hh with rfl | rfl | rfl | rfl | rfl | rfl <;> rfl
theorem pre_free {s : St} {k : Nat} (hk : k < 6) (h : shS s k = zeroB) : preS s (k + 1) = preS s k := by
  have hh : k = 0 ∨ k = 1 ∨ k = 2 ∨ k = 3 ∨ k = 4 ∨ k = 5 := by omega
  rcases hh with rfl | rfl | rfl | rfl | rfl | rfl
  · have h' : s.s0 = zeroB := h
    simp [preS, h']
  · have h' : s.s1 = zeroB := h
    simp [preS, h']
  · have h' : s.s2 = zeroB := h
    simp [preS, h']
  · have h' : s.s3 = zeroB := h
    simp [preS, h']
  · have h' : s.s4 = zeroB := h
    simp [preS, h']
  · have h' : s.s5 = zeroB := h
    simp [preS, h']
theorem ty_headOf {m : List Nat} (h : ∀ n, n ∈ m → n ≤ 4294967295) : Ty (headOf m) := by
  have z := ty_zero
  refine ⟨nat64 (nt_bd h 0), ?_, nat64 (nt_bd h 2), nat64 (nt_bd h 3), fun t => ?_, fun t => ?_⟩
  · have := nt_bd h 1
    show 0 ≤ (nt m 1 : Int) ∧ (nt m 1 : Int) ≤ 4294967295
    omega
  · have := z.pl t
    unfold plS at this ⊢
    split
    · rw [if_pos (by assumption)] at this; exact this
    · rw [if_neg (by assumption)] at this; exact this
  · have := z.sh t
    have e : shS (headOf m) t = shS zeroS t := by unfold shS; split <;> rfl
    rw [e]
    exact this

/-- what is known of a state whose bytes these are. -/
structure Known (σ : List UInt8) (s : St) : Prop where
  ty : Ty s
  ok : rightS s = true
  by_ : flatN (numsS s) = σ
theorem known {σ : List UInt8} {s : St} (h : unpR σ = some s) : Known σ s := by
  obtain ⟨h1, h2, h3, _⟩ := unp_some h
  exact ⟨h3, h1, (flat_all s).trans h2⟩
theorem Known.bd {σ : List UInt8} {s : St} (h : Known σ s) : ∀ n, n ∈ numsS s → n ≤ 4294967295 := nums_bd h.ty h.ok
theorem Known.nn {σ : List UInt8} {s : St} (h : Known σ s) : NnS s := nn_state h.ty h.ok
theorem Known.bd64 {σ : List UInt8} {s : St} (h : Known σ s) : bd64 (numsS s) := fun n hn => Nat.lt_of_le_of_lt (h.bd n hn) (by decide)
theorem Known.list {σ : List UInt8} {s : St} (h : Known σ s) {l : List Nat} (hb : Fz.bd64 l) (hl : flatN l = σ) : l = numsS s := flat_inj l _ hb h.bd64 (hl.trans h.by_.symm)
theorem nums_len (s : St) : 25 ≤ (numsS s).length := by
  unfold numsS plNs
  simp
theorem head_of {s : St} (h : NnS s) : headOf (numsS s) = preP s 0 := by
  show (⟨((s.fr.toNat : Nat) : Int), ((s.di.toNat : Nat) : Int), ((s.rd.toNat : Nat) : Int), ((s.lf.toNat : Nat) : Int), zeroP, zeroP, zeroB, zeroB, zeroB, zeroB, zeroB, zeroB⟩ : St) = _
  rw [Int.toNat_of_nonneg h.fr, Int.toNat_of_nonneg h.ty.di.1, Int.toNat_of_nonneg h.rd, Int.toNat_of_nonneg h.lf]
  rfl
theorem pl_at {s : St} (h : NnS s) {k : Nat} (hk : k < 2) : plOf ((numsS s).drop (4 + k * 10)) = plS s k := by
  have hh : k = 0 ∨ k = 1 := by omega
  rcases hh with rfl | rfl
  · exact pl_of (h.pl 0) _
  · exact pl_of (h.pl 1) _
theorem bits_of (s : St) : nt (numsS s) 24 = bitsN s := rfl
theorem rem_of (s : St) : (numsS s).drop 25 = remN s 6 := rfl
theorem rem_next {s : St} {k : Nat} (hk : k < 6) : remN s (6 - k) = buNs (shS s k) ++ remN s (6 - (k + 1)) := by
  have hh : k = 0 ∨ k = 1 ∨ k = 2 ∨ k = 3 ∨ k = 4 ∨ k = 5 := by omega
  rcases hh with rfl | rfl | rfl | rfl | rfl | rfl <;> rfl
theorem bu_len {x : Bu} (h : x ≠ zeroB) : (buNs x).length = 6 := by unfold buNs; rw [if_neg h]; rfl
end Go.Proofs.Ythbncbdnpeglfaa.Fz
