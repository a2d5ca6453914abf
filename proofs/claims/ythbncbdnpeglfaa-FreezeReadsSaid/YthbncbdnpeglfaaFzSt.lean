/- What numbers and places make of a state (layer 13, freeze). -/
import Derived.Test.YthbncbdnpeglfaaFzPl
namespace Go.Proofs.Ythbncbdnpeglfaa.Fz
open Go.RowKit
open Go.Proofs.Ythbncbdnpeglfaa.Ev (At)
open Go.Proofs.Ythbncbdnpeglfaa.Gm (hid Pl Bu St plC buC stC zeroP zeroB zeroS plS setP shS setS)
open Go.Proofs.Ythbncbdnpeglfaa.Pk (numL rdN sgnN unsN)
set_option linter.unusedVariables false

attribute [local irreducible] i64W u32W i32W
theorem okc_R {kd : IntKind} {lo hi : Int} {cs : List Value} {j : Nat} {x : Int} (h : cs[j]? = some (.int kd x)) (h0 : lo ≤ x ∧ x ≤ hi) : Okc kd lo hi cs j := ⟨x, h, h0⟩

set_option maxHeartbeats 2000000 in
theorem fr_W (n q b g : Nat) (s : St) (σ : List UInt8) (w : World) (hW : Wk false n q σ w) (hb : At w b (stC s).toArray 33) (hnb : n ≤ b) (hg : At w g #[.pointer (some ⟨b, 0, none⟩)] 88) (hT : Ty s) (hl : σ.length ≤ 1073740000) :
    Calls Try.prog 33 #[.iface 60 (.pointer (some ⟨q, 0, none⟩)), .slice (some ⟨g, 0, none⟩) 1 1] w fun e w' => e = .returned (.tuple #[]) ∧ Wk false n q (frW false (s, σ)).2 w' ∧ At w' b (stC (frW false (s, σ)).1).toArray 33 ∧ Below n w w' := by
  have e : [0].foldl (atI false) (stC s, σ) = (stC (frW false (s, σ)).1, (frW false (s, σ)).2) := rfl
  have h := numWI_c n q b g [0] (stC s) σ w hW hb hnb hg (fun j hj => by simp at hj; subst hj; exact okc_R rfl hT.fr) (by simp; omega)
  rw [e] at h
  exact h

set_option maxHeartbeats 2000000 in
theorem di_W (n q b g : Nat) (s : St) (σ : List UInt8) (w : World) (hW : Wk false n q σ w) (hb : At w b (stC s).toArray 33) (hnb : n ≤ b) (hg : At w g #[.pointer (some ⟨b, 1, none⟩)] 90) (hT : Ty s) (hl : σ.length ≤ 1073740000) :
    Calls Try.prog 34 #[.iface 60 (.pointer (some ⟨q, 0, none⟩)), .slice (some ⟨g, 0, none⟩) 1 1] w fun e w' => e = .returned (.tuple #[]) ∧ Wk false n q (diW false (s, σ)).2 w' ∧ At w' b (stC (diW false (s, σ)).1).toArray 33 ∧ Below n w w' := by
  have e : [1].foldl (atU false) (stC s, σ) = (stC (diW false (s, σ)).1, (diW false (s, σ)).2) := rfl
  have h := numWU_c n q b g [1] (stC s) σ w hW hb hnb hg (fun j hj => by simp at hj; subst hj; exact okc_R rfl hT.di) (by simp; omega)
  rw [e] at h
  exact h

set_option maxHeartbeats 2000000 in
theorem rl_W (n q b g : Nat) (s : St) (σ : List UInt8) (w : World) (hW : Wk false n q σ w) (hb : At w b (stC s).toArray 33) (hnb : n ≤ b) (hg : At w g #[.pointer (some ⟨b, 2, none⟩), .pointer (some ⟨b, 3, none⟩)] 88) (hT : Ty s) (hl : σ.length ≤ 1073740000) :
    Calls Try.prog 33 #[.iface 60 (.pointer (some ⟨q, 0, none⟩)), .slice (some ⟨g, 0, none⟩) 2 2] w fun e w' => e = .returned (.tuple #[]) ∧ Wk false n q (rlW false (s, σ)).2 w' ∧ At w' b (stC (rlW false (s, σ)).1).toArray 33 ∧ Below n w w' := by
  have e : [2, 3].foldl (atI false) (stC s, σ) = (stC (rlW false (s, σ)).1, (rlW false (s, σ)).2) := rfl
  have h := numWI_c n q b g [2, 3] (stC s) σ w hW hb hnb hg (fun j hj => by simp at hj; rcases hj with rfl | rfl; exact okc_R rfl hT.rd; exact okc_R rfl hT.lf) (by simp; omega)
  rw [e] at h
  exact h

set_option maxHeartbeats 2000000 in
theorem pv_W (n q b g : Nat) (s : St) (σ : List UInt8) (w : World) (t : Nat) (ht : t < 2) (hW : Wk false n q σ w) (hb : At w b (stC s).toArray 33) (hnb : n ≤ b) (hg : At w g #[.pointer (some ⟨b, 4 + t * 10, none⟩), .pointer (some ⟨b, 4 + t * 10 + 2, none⟩)] 93) (hT : Ty s) (hl : σ.length ≤ 1073740000) :
    Calls Try.prog 35 #[.iface 60 (.pointer (some ⟨q, 0, none⟩)), .slice (some ⟨g, 0, none⟩) 2 2] w fun e w' => e = .returned (.tuple #[]) ∧ Wk false n q (pvW false t (s, σ)).2 w' ∧ At w' b (stC (pvW false t (s, σ)).1).toArray 33 ∧ Below n w w' := by
  have e : [4 + t * 10, 4 + t * 10 + 2].foldl (atV false) (stC s, σ) = (stC (pvW false t (s, σ)).1, (pvW false t (s, σ)).2) := (by
    have hh : t = 0 ∨ t = 1 := by omega
    rcases hh with rfl | rfl <;> rfl)
  have h := placeW_c n q b g [4 + t * 10, 4 + t * 10 + 2] (stC s) σ w hW hb hnb hg (fun j hj => by
      have h := (hT.pl t).1
      have hh : t = 0 ∨ t = 1 := by omega
      simp at hj
      rcases hh with rfl | rfl <;> rcases hj with rfl | rfl
      · exact ⟨okc_R rfl h.1, okc_R rfl h.2.1⟩
      · exact ⟨okc_R rfl h.2.2.1, okc_R rfl h.2.2.2⟩
      · exact ⟨okc_R rfl h.1, okc_R rfl h.2.1⟩
      · exact ⟨okc_R rfl h.2.2.1, okc_R rfl h.2.2.2⟩) (by simp; omega)
  rw [e] at h
  exact h

set_option maxHeartbeats 2000000 in
theorem pn_W (n q b g : Nat) (s : St) (σ : List UInt8) (w : World) (t : Nat) (ht : t < 2) (hW : Wk false n q σ w) (hb : At w b (stC s).toArray 33) (hnb : n ≤ b) (hg : At w g #[.pointer (some ⟨b, 4 + t * 10 + 4, none⟩), .pointer (some ⟨b, 4 + t * 10 + 5, none⟩), .pointer (some ⟨b, 4 + t * 10 + 6, none⟩), .pointer (some ⟨b, 4 + t * 10 + 7, none⟩), .pointer (some ⟨b, 4 + t * 10 + 8, none⟩), .pointer (some ⟨b, 4 + t * 10 + 9, none⟩)] 88) (hT : Ty s) (hl : σ.length ≤ 1073740000) :
    Calls Try.prog 33 #[.iface 60 (.pointer (some ⟨q, 0, none⟩)), .slice (some ⟨g, 0, none⟩) 6 6] w fun e w' => e = .returned (.tuple #[]) ∧ Wk false n q (pnW false t (s, σ)).2 w' ∧ At w' b (stC (pnW false t (s, σ)).1).toArray 33 ∧ Below n w w' := by
  have e : [4 + t * 10 + 4, 4 + t * 10 + 5, 4 + t * 10 + 6, 4 + t * 10 + 7, 4 + t * 10 + 8, 4 + t * 10 + 9].foldl (atI false) (stC s, σ) = (stC (pnW false t (s, σ)).1, (pnW false t (s, σ)).2) := (by
    have hh : t = 0 ∨ t = 1 := by omega
    rcases hh with rfl | rfl <;> rfl)
  have h := numWI_c n q b g [4 + t * 10 + 4, 4 + t * 10 + 5, 4 + t * 10 + 6, 4 + t * 10 + 7, 4 + t * 10 + 8, 4 + t * 10 + 9] (stC s) σ w hW hb hnb hg (fun j hj => by
      have h := (hT.pl t).2
      have hh : t = 0 ∨ t = 1 := by omega
      simp at hj
      rcases hh with rfl | rfl <;> rcases hj with rfl | rfl | rfl | rfl | rfl | rfl
      all_goals first
        | exact okc_R rfl h.1
        | exact okc_R rfl h.2.1
        | exact okc_R rfl h.2.2.1
        | exact okc_R rfl h.2.2.2.1
        | exact okc_R rfl h.2.2.2.2.1
        | exact okc_R rfl h.2.2.2.2.2) (by simp; omega)
  rw [e] at h
  exact h

set_option maxHeartbeats 2000000 in
theorem sv_W (n q b g : Nat) (s : St) (σ : List UInt8) (w : World) (t : Nat) (ht : t < 6) (hW : Wk false n q σ w) (hb : At w b (stC s).toArray 33) (hnb : n ≤ b) (hg : At w g #[.pointer (some ⟨b, 24 + t * 6, none⟩), .pointer (some ⟨b, 24 + t * 6 + 2, none⟩)] 93) (hT : Ty s) (hl : σ.length ≤ 1073740000) :
    Calls Try.prog 35 #[.iface 60 (.pointer (some ⟨q, 0, none⟩)), .slice (some ⟨g, 0, none⟩) 2 2] w fun e w' => e = .returned (.tuple #[]) ∧ Wk false n q (svW false t (s, σ)).2 w' ∧ At w' b (stC (svW false t (s, σ)).1).toArray 33 ∧ Below n w w' := by
  have e : [24 + t * 6, 24 + t * 6 + 2].foldl (atV false) (stC s, σ) = (stC (svW false t (s, σ)).1, (svW false t (s, σ)).2) := (by
    have hh : t = 0 ∨ t = 1 ∨ t = 2 ∨ t = 3 ∨ t = 4 ∨ t = 5 := by omega
    rcases hh with rfl | rfl | rfl | rfl | rfl | rfl <;> rfl)
  have h := placeW_c n q b g [24 + t * 6, 24 + t * 6 + 2] (stC s) σ w hW hb hnb hg (fun j hj => by
      have h := (hT.sh t).1
      have hh : t = 0 ∨ t = 1 ∨ t = 2 ∨ t = 3 ∨ t = 4 ∨ t = 5 := by omega
      simp at hj
      rcases hh with rfl | rfl | rfl | rfl | rfl | rfl <;> rcases hj with rfl | rfl
      all_goals first
        | exact ⟨okc_R rfl h.1, okc_R rfl h.2.1⟩
        | exact ⟨okc_R rfl h.2.2.1, okc_R rfl h.2.2.2⟩) (by simp; omega)
  rw [e] at h
  exact h

set_option maxHeartbeats 2000000 in
theorem sn_W (n q b g : Nat) (s : St) (σ : List UInt8) (w : World) (t : Nat) (ht : t < 6) (hW : Wk false n q σ w) (hb : At w b (stC s).toArray 33) (hnb : n ≤ b) (hg : At w g #[.pointer (some ⟨b, 24 + t * 6 + 4, none⟩), .pointer (some ⟨b, 24 + t * 6 + 5, none⟩)] 88) (hT : Ty s) (hl : σ.length ≤ 1073740000) :
    Calls Try.prog 33 #[.iface 60 (.pointer (some ⟨q, 0, none⟩)), .slice (some ⟨g, 0, none⟩) 2 2] w fun e w' => e = .returned (.tuple #[]) ∧ Wk false n q (snW false t (s, σ)).2 w' ∧ At w' b (stC (snW false t (s, σ)).1).toArray 33 ∧ Below n w w' := by
  have e : [24 + t * 6 + 4, 24 + t * 6 + 5].foldl (atI false) (stC s, σ) = (stC (snW false t (s, σ)).1, (snW false t (s, σ)).2) := (by
    have hh : t = 0 ∨ t = 1 ∨ t = 2 ∨ t = 3 ∨ t = 4 ∨ t = 5 := by omega
    rcases hh with rfl | rfl | rfl | rfl | rfl | rfl <;> rfl)
  have h := numWI_c n q b g [24 + t * 6 + 4, 24 + t * 6 + 5] (stC s) σ w hW hb hnb hg (fun j hj => by
      have h := (hT.sh t).2
      have hh : t = 0 ∨ t = 1 ∨ t = 2 ∨ t = 3 ∨ t = 4 ∨ t = 5 := by omega
      simp at hj
      rcases hh with rfl | rfl | rfl | rfl | rfl | rfl <;> rcases hj with rfl | rfl
      all_goals first
        | exact okc_R rfl h.1
        | exact okc_R rfl h.2) (by simp; omega)
  rw [e] at h
  exact h

set_option maxHeartbeats 2000000 in
theorem fr_R (n q b g : Nat) (s : St) (σ : List UInt8) (w : World) (hW : Wk true n q σ w) (hb : At w b (stC s).toArray 33) (hnb : n ≤ b) (hg : At w g #[.pointer (some ⟨b, 0, none⟩)] 88) (hT : Ty s) (hl : σ.length ≤ 1073740000) :
    Calls Try.prog 33 #[.iface 68 (.pointer (some ⟨q, 0, none⟩)), .slice (some ⟨g, 0, none⟩) 1 1] w fun e w' => e = .returned (.tuple #[]) ∧ Wk true n q (frW true (s, σ)).2 w' ∧ At w' b (stC (frW true (s, σ)).1).toArray 33 ∧ Below n w w' := by
  have e : [0].foldl (atI true) (stC s, σ) = (stC (frW true (s, σ)).1, (frW true (s, σ)).2) := rfl
  have h := numRI_c n q b g [0] (stC s) σ w hW hb hnb hg (fun j hj => by simp at hj; subst hj; exact okc_R rfl hT.fr) (by simp; omega)
  rw [e] at h
  exact h

set_option maxHeartbeats 2000000 in
theorem di_R (n q b g : Nat) (s : St) (σ : List UInt8) (w : World) (hW : Wk true n q σ w) (hb : At w b (stC s).toArray 33) (hnb : n ≤ b) (hg : At w g #[.pointer (some ⟨b, 1, none⟩)] 90) (hT : Ty s) (hl : σ.length ≤ 1073740000) :
    Calls Try.prog 34 #[.iface 68 (.pointer (some ⟨q, 0, none⟩)), .slice (some ⟨g, 0, none⟩) 1 1] w fun e w' => e = .returned (.tuple #[]) ∧ Wk true n q (diW true (s, σ)).2 w' ∧ At w' b (stC (diW true (s, σ)).1).toArray 33 ∧ Below n w w' := by
  have e : [1].foldl (atU true) (stC s, σ) = (stC (diW true (s, σ)).1, (diW true (s, σ)).2) := rfl
  have h := numRU_c n q b g [1] (stC s) σ w hW hb hnb hg (fun j hj => by simp at hj; subst hj; exact okc_R rfl hT.di) (by simp; omega)
  rw [e] at h
  exact h

set_option maxHeartbeats 2000000 in
theorem rl_R (n q b g : Nat) (s : St) (σ : List UInt8) (w : World) (hW : Wk true n q σ w) (hb : At w b (stC s).toArray 33) (hnb : n ≤ b) (hg : At w g #[.pointer (some ⟨b, 2, none⟩), .pointer (some ⟨b, 3, none⟩)] 88) (hT : Ty s) (hl : σ.length ≤ 1073740000) :
    Calls Try.prog 33 #[.iface 68 (.pointer (some ⟨q, 0, none⟩)), .slice (some ⟨g, 0, none⟩) 2 2] w fun e w' => e = .returned (.tuple #[]) ∧ Wk true n q (rlW true (s, σ)).2 w' ∧ At w' b (stC (rlW true (s, σ)).1).toArray 33 ∧ Below n w w' := by
  have e : [2, 3].foldl (atI true) (stC s, σ) = (stC (rlW true (s, σ)).1, (rlW true (s, σ)).2) := rfl
  have h := numRI_c n q b g [2, 3] (stC s) σ w hW hb hnb hg (fun j hj => by simp at hj; rcases hj with rfl | rfl; exact okc_R rfl hT.rd; exact okc_R rfl hT.lf) (by simp; omega)
  rw [e] at h
  exact h

set_option maxHeartbeats 2000000 in
theorem pv_R (n q b g : Nat) (s : St) (σ : List UInt8) (w : World) (t : Nat) (ht : t < 2) (hW : Wk true n q σ w) (hb : At w b (stC s).toArray 33) (hnb : n ≤ b) (hg : At w g #[.pointer (some ⟨b, 4 + t * 10, none⟩), .pointer (some ⟨b, 4 + t * 10 + 2, none⟩)] 93) (hT : Ty s) (hl : σ.length ≤ 1073740000) :
    Calls Try.prog 35 #[.iface 68 (.pointer (some ⟨q, 0, none⟩)), .slice (some ⟨g, 0, none⟩) 2 2] w fun e w' => e = .returned (.tuple #[]) ∧ Wk true n q (pvW true t (s, σ)).2 w' ∧ At w' b (stC (pvW true t (s, σ)).1).toArray 33 ∧ Below n w w' := by
  have e : [4 + t * 10, 4 + t * 10 + 2].foldl (atV true) (stC s, σ) = (stC (pvW true t (s, σ)).1, (pvW true t (s, σ)).2) := (by
    have hh : t = 0 ∨ t = 1 := by omega
    rcases hh with rfl | rfl <;> rfl)
  have h := placeR_c n q b g [4 + t * 10, 4 + t * 10 + 2] (stC s) σ w hW hb hnb hg (fun j hj => by
      have h := (hT.pl t).1
      have hh : t = 0 ∨ t = 1 := by omega
      simp at hj
      rcases hh with rfl | rfl <;> rcases hj with rfl | rfl
      · exact ⟨okc_R rfl h.1, okc_R rfl h.2.1⟩
      · exact ⟨okc_R rfl h.2.2.1, okc_R rfl h.2.2.2⟩
      · exact ⟨okc_R rfl h.1, okc_R rfl h.2.1⟩
      · exact ⟨okc_R rfl h.2.2.1, okc_R rfl h.2.2.2⟩) (by simp; omega)
  rw [e] at h
  exact h

set_option maxHeartbeats 2000000 in
theorem pn_R (n q b g : Nat) (s : St) (σ : List UInt8) (w : World) (t : Nat) (ht : t < 2) (hW : Wk true n q σ w) (hb : At w b (stC s).toArray 33) (hnb : n ≤ b) (hg : At w g #[.pointer (some ⟨b, 4 + t * 10 + 4, none⟩), .pointer (some ⟨b, 4 + t * 10 + 5, none⟩), .pointer (some ⟨b, 4 + t * 10 + 6, none⟩), .pointer (some ⟨b, 4 + t * 10 + 7, none⟩), .pointer (some ⟨b, 4 + t * 10 + 8, none⟩), .pointer (some ⟨b, 4 + t * 10 + 9, none⟩)] 88) (hT : Ty s) (hl : σ.length ≤ 1073740000) :
    Calls Try.prog 33 #[.iface 68 (.pointer (some ⟨q, 0, none⟩)), .slice (some ⟨g, 0, none⟩) 6 6] w fun e w' => e = .returned (.tuple #[]) ∧ Wk true n q (pnW true t (s, σ)).2 w' ∧ At w' b (stC (pnW true t (s, σ)).1).toArray 33 ∧ Below n w w' := by
  have e : [4 + t * 10 + 4, 4 + t * 10 + 5, 4 + t * 10 + 6, 4 + t * 10 + 7, 4 + t * 10 + 8, 4 + t * 10 + 9].foldl (atI true) (stC s, σ) = (stC (pnW true t (s, σ)).1, (pnW true t (s, σ)).2) := (by
    have hh : t = 0 ∨ t = 1 := by omega
    rcases hh with rfl | rfl <;> rfl)
  have h := numRI_c n q b g [4 + t * 10 + 4, 4 + t * 10 + 5, 4 + t * 10 + 6, 4 + t * 10 + 7, 4 + t * 10 + 8, 4 + t * 10 + 9] (stC s) σ w hW hb hnb hg (fun j hj => by
      have h := (hT.pl t).2
      have hh : t = 0 ∨ t = 1 := by omega
      simp at hj
      rcases hh with rfl | rfl <;> rcases hj with rfl | rfl | rfl | rfl | rfl | rfl
      all_goals first
        | exact okc_R rfl h.1
        | exact okc_R rfl h.2.1
        | exact okc_R rfl h.2.2.1
        | exact okc_R rfl h.2.2.2.1
        | exact okc_R rfl h.2.2.2.2.1
        | exact okc_R rfl h.2.2.2.2.2) (by simp; omega)
  rw [e] at h
  exact h

set_option maxHeartbeats 2000000 in
theorem sv_R (n q b g : Nat) (s : St) (σ : List UInt8) (w : World) (t : Nat) (ht : t < 6) (hW : Wk true n q σ w) (hb : At w b (stC s).toArray 33) (hnb : n ≤ b) (hg : At w g #[.pointer (some ⟨b, 24 + t * 6, none⟩), .pointer (some ⟨b, 24 + t * 6 + 2, none⟩)] 93) (hT : Ty s) (hl : σ.length ≤ 1073740000) :
    Calls Try.prog 35 #[.iface 68 (.pointer (some ⟨q, 0, none⟩)), .slice (some ⟨g, 0, none⟩) 2 2] w fun e w' => e = .returned (.tuple #[]) ∧ Wk true n q (svW true t (s, σ)).2 w' ∧ At w' b (stC (svW true t (s, σ)).1).toArray 33 ∧ Below n w w' := by
  have e : [24 + t * 6, 24 + t * 6 + 2].foldl (atV true) (stC s, σ) = (stC (svW true t (s, σ)).1, (svW true t (s, σ)).2) := (by
    have hh : t = 0 ∨ t = 1 ∨ t = 2 ∨ t = 3 ∨ t = 4 ∨ t = 5 := by omega
    rcases hh with rfl | rfl | rfl | rfl | rfl | rfl <;> rfl)
  have h := placeR_c n q b g [24 + t * 6, 24 + t * 6 + 2] (stC s) σ w hW hb hnb hg (fun j hj => by
      have h := (hT.sh t).1
      have hh : t = 0 ∨ t = 1 ∨ t = 2 ∨ t = 3 ∨ t = 4 ∨ t = 5 := by omega
      simp at hj
      rcases hh with rfl | rfl | rfl | rfl | rfl | rfl <;> rcases hj with rfl | rfl
      all_goals first
        | exact ⟨okc_R rfl h.1, okc_R rfl h.2.1⟩
        | exact ⟨okc_R rfl h.2.2.1, okc_R rfl h.2.2.2⟩) (by simp; omega)
  rw [e] at h
  exact h

set_option maxHeartbeats 2000000 in
theorem sn_R (n q b g : Nat) (s : St) (σ : List UInt8) (w : World) (t : Nat) (ht : t < 6) (hW : Wk true n q σ w) (hb : At w b (stC s).toArray 33) (hnb : n ≤ b) (hg : At w g #[.pointer (some ⟨b, 24 + t * 6 + 4, none⟩), .pointer (some ⟨b, 24 + t * 6 + 5, none⟩)] 88) (hT : Ty s) (hl : σ.length ≤ 1073740000) :
    Calls Try.prog 33 #[.iface 68 (.pointer (some ⟨q, 0, none⟩)), .slice (some ⟨g, 0, none⟩) 2 2] w fun e w' => e = .returned (.tuple #[]) ∧ Wk true n q (snW true t (s, σ)).2 w' ∧ At w' b (stC (snW true t (s, σ)).1).toArray 33 ∧ Below n w w' := by
  have e : [24 + t * 6 + 4, 24 + t * 6 + 5].foldl (atI true) (stC s, σ) = (stC (snW true t (s, σ)).1, (snW true t (s, σ)).2) := (by
    have hh : t = 0 ∨ t = 1 ∨ t = 2 ∨ t = 3 ∨ t = 4 ∨ t = 5 := by omega
    rcases hh with rfl | rfl | rfl | rfl | rfl | rfl <;> rfl)
  have h := numRI_c n q b g [24 + t * 6 + 4, 24 + t * 6 + 5] (stC s) σ w hW hb hnb hg (fun j hj => by
      have h := (hT.sh t).2
      have hh : t = 0 ∨ t = 1 ∨ t = 2 ∨ t = 3 ∨ t = 4 ∨ t = 5 := by omega
      simp at hj
      rcases hh with rfl | rfl | rfl | rfl | rfl | rfl <;> rcases hj with rfl | rfl
      all_goals first
        | exact okc_R rfl h.1
        | exact okc_R rfl h.2) (by simp; omega)
  rw [e] at h
  exact h

end Go.Proofs.Ythbncbdnpeglfaa.Fz
