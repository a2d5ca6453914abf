/- Plain facts for layer 14 (feed): what a feed has, what each call answers and makes of it; what is wrong, and that taken anew nothing is. Of no program. -/
/- Plain facts for layer 15 (core): what a core has, what each call makes of it; what is settled is true, and stays so. Of no program; the game's step is a letter. -/
/- Plain facts for layer 15 (core): what holds of cores stays so behind Repair, Step and Free; what is settled is true. Of no program. -/

namespace Go.Proofs.YtfclnhmijjlhdaaGreatDoor.Fd

/-- a feed: all inputs that ever were known, from frame 0 on; the first frame that is kept; what was used for a frame, where it is kept. -/
structure Fd where
 L : List Int
 first : Nat
 us : Nat → Option Int

def Fd.next (m : Fd) : Nat := m.L.length
def newF : Fd := ⟨[], 0, fun _ => none⟩
/-- what is known of a frame that is kept. -/
def kn (m : Fd) (f : Int) : Option Int := if (m.first : Int) ≤ f then m.L[f.toNat]? else none
/-- the guess. -/
def gs (m : Fd) : Int := m.L.getLast?.getD 0
/-- what is taken for a frame that is kept, or behind it. -/
def tk (m : Fd) (f : Int) : Int := (kn m f).getD (gs m)
def isTk (m : Fd) (f : Int) : Prop := (m.first : Int) ≤ f ∧ f ≤ 1073741824
instance (m : Fd) (f : Int) : Decidable (isTk m f) := inferInstanceAs (Decidable (_ ∧ _))

def putE (m : Fd) (f a : Int) : Int :=
 if 63 < a ∨ f < 0 ∨ 1073741824 < f then 1 else if f < (m.L.length : Int) then 10 else if (m.L.length : Int) < f then 11 else if 64 ≤ f - (m.first : Int) then 8 else 0
def putM (m : Fd) (f a : Int) : Fd := if putE m f a = 0 then { m with L := m.L ++ [a] } else m
def takeV (m : Fd) (f : Int) : Int := if isTk m f then tk m f else 0
def takeB (m : Fd) (f : Int) : Bool := (kn m f).isSome
def takeM (m : Fd) (f : Int) : Fd := if isTk m f ∧ f - (m.first : Int) < 64 then { m with us := fun k => if (k : Int) = f then some (tk m f) else m.us k } else m
def isWrong (m : Fd) (k : Nat) : Bool := match m.us k with | some x => decide (m.L[k]? ≠ some x) | none => false
/-- the first frame that is known, and kept, for which something else was used. -/
def wrong (m : Fd) : Option Nat := (List.range' m.first (m.L.length - m.first)).find? (isWrong m)
def trimN (m : Fd) (f : Int) : Nat := (min f (m.L.length : Int)).toNat - m.first
def trimM (m : Fd) (f : Int) : Fd := { m with first := max m.first (min f (m.L.length : Int)).toNat, us := fun k => if (k : Int) < min f (m.L.length : Int) then none else m.us k }
def fromL (m : Fd) (f : Int) : List Int := m.L.drop (max (m.first : Int) f).toNat

/-- what holds of feeds. -/
structure Ok (m : Fd) : Prop where
 le : m.first ≤ m.L.length
 few : m.L.length ≤ m.first + 64
 len : m.L.length ≤ 1073741825
 may : ∀ x ∈ m.L, 0 ≤ x ∧ x ≤ 63
 old : ∀ k, k < m.first → m.us k = none
 far : ∀ k, m.first + 64 ≤ k → m.us k = none
 umay : ∀ k x, m.us k = some x → 0 ≤ x ∧ x ≤ 63

theorem ok_new : Ok newF := ⟨by simp [newF], by simp [newF], by simp [newF], by simp [newF], by simp [newF], by simp [newF], by simp [newF]⟩
theorem gs_may {m : Fd} (h : Ok m) : 0 ≤ gs m ∧ gs m ≤ 63 := by
 unfold gs
 cases hl : m.L.getLast? with
 | none => simp
 | some x => simpa using h.may x (List.mem_of_getLast? hl)
theorem kn_may {m : Fd} (h : Ok m) {f x : Int} (hk : kn m f = some x) : 0 ≤ x ∧ x ≤ 63 := by
 unfold kn at hk
 split at hk
 · exact h.may x (List.mem_of_getElem? hk)
 · cases hk
theorem tk_may {m : Fd} (h : Ok m) (f : Int) : 0 ≤ tk m f ∧ tk m f ≤ 63 := by
 unfold tk
 cases hk : kn m f with
 | none => simpa using gs_may h
 | some x => simpa using kn_may h hk
theorem ok_put {m : Fd} (h : Ok m) {f a : Int} (ha : 0 ≤ a) : Ok (putM m f a) := by
 unfold putM
 by_cases he : putE m f a = 0
 · rw [if_pos he]
   unfold putE at he
   split at he; · cases he
   rename_i h1
   split at he; · cases he
   split at he; · cases he
   split at he; · cases he
   refine ⟨?_, ?_, ?_, ?_, h.old, h.far, h.umay⟩
   · have := h.le; simp; omega
   · simp; omega
   · simp; omega
   · intro x hx
     rcases List.mem_append.1 hx with hx | hx
     · exact h.may x hx
     · have : x = a := by simpa using hx
       subst this; omega
 · rw [if_neg he]; exact h
theorem ok_take {m : Fd} (h : Ok m) (f : Int) : Ok (takeM m f) := by
 unfold takeM
 by_cases hc : isTk m f ∧ f - (m.first : Int) < 64
 · rw [if_pos hc]
   obtain ⟨⟨h1, h2⟩, h3⟩ := hc
   refine ⟨h.le, h.few, h.len, h.may, ?_, ?_, ?_⟩
   · intro k hk; simp only; rw [if_neg (by dsimp only at hk; omega)]; exact h.old k hk
   · intro k hk; simp only; rw [if_neg (by dsimp only at hk; omega)]; exact h.far k hk
   · intro k x hx
     dsimp only at hx
     split at hx
     · cases hx; exact tk_may h f
     · exact h.umay k x hx
 · rw [if_neg hc]; exact h
theorem ok_trim {m : Fd} (h : Ok m) (f : Int) : Ok (trimM m f) := by
 have h1 := h.le
 have h2 := h.few
 refine ⟨?_, ?_, h.len, h.may, ?_, ?_, ?_⟩
 · simp only [trimM]; omega
 · simp only [trimM]; omega
 · intro k hk
   simp only [trimM] at hk ⊢
   split
   · rfl
   · exact h.old k (by omega)
 · intro k hk
   simp only [trimM] at hk ⊢
   split
   · rfl
   · exact h.far k (by omega)
 · intro k x hx
   simp only [trimM] at hx
   split at hx
   · cases hx
   · exact h.umay k x hx

theorem wrong_some {m : Fd} {w : Nat} (h : wrong m = some w) : m.first ≤ w ∧ w < m.L.length ∧ isWrong m w = true ∧ ∀ k, m.first ≤ k → k < w → isWrong m k = false := by
 unfold wrong at h
 have hm := List.mem_of_find?_eq_some h
 have hp := List.find?_some h
 rw [List.mem_range'_1] at hm
 refine ⟨hm.1, by omega, hp, fun k h1 h2 => ?_⟩
 rw [List.find?_range'_eq_some] at h
 simpa using h.2.2 k h1 h2
theorem wrong_none {m : Fd} : wrong m = none ↔ ∀ k, m.first ≤ k → k < m.L.length → isWrong m k = false := by
 unfold wrong
 rw [List.find?_eq_none]
 constructor
 · intro h k h1 h2
   simpa using h k (by rw [List.mem_range'_1]; omega)
 · intro h k hk
   rw [List.mem_range'_1] at hk
   simpa using h k hk.1 (by omega)
theorem wrong_is {m : Fd} {w : Nat} (h1 : m.first ≤ w) (h2 : w < m.L.length) (h3 : isWrong m w = true) (h4 : ∀ k, m.first ≤ k → k < w → isWrong m k = false) : wrong m = some w := by
 unfold wrong
 rw [List.find?_range'_eq_some]
 exact ⟨h3, by rw [List.mem_range'_1]; omega, fun k h5 h6 => by simp [h4 k h5 h6]⟩

/-- taken anew: frames w to k - 1 of what is known. -/
def again (m : Fd) (w : Nat) : Nat → Fd
 | 0 => m
 | n + 1 => takeM (again m w n) ((w + n : Nat) : Int)
theorem take_L (m : Fd) (f : Int) : (takeM m f).L = m.L := by unfold takeM; split <;> rfl
theorem take_first (m : Fd) (f : Int) : (takeM m f).first = m.first := by unfold takeM; split <;> rfl
theorem again_L (m : Fd) (w : Nat) : ∀ n, (again m w n).L = m.L ∧ (again m w n).first = m.first
 | 0 => ⟨rfl, rfl⟩
 | n + 1 => ⟨(take_L _ _).trans (again_L m w n).1, (take_first _ _).trans (again_L m w n).2⟩
theorem kn_in {m : Fd} {k : Nat} (h1 : m.first ≤ k) (h2 : k < m.L.length) : kn m (k : Int) = some (m.L[k]'h2) := by
 unfold kn
 rw [if_pos (by omega), Int.toNat_natCast, List.getElem?_eq_getElem h2]
theorem kn_none {m : Fd} {f : Int} (h : f < (m.first : Int) ∨ (m.L.length : Int) ≤ f) : kn m f = none := by
 unfold kn
 split
 · exact List.getElem?_eq_none (by omega)
 · rfl
theorem take_right {m : Fd} (h : Ok m) {k : Nat} (h1 : m.first ≤ k) (h2 : k < m.L.length) (j : Nat) : isWrong (takeM m (k : Int)) j = (if j = k then false else isWrong m j) := by
 have h3 := h.few
 have h4 := h.len
 have hc : isTk m (k : Int) ∧ (k : Int) - (m.first : Int) < 64 := ⟨⟨by omega, by omega⟩, by omega⟩
 unfold isWrong
 rw [take_L]
 unfold takeM
 rw [if_pos hc]
 dsimp only
 by_cases hj : j = k
 · subst hj
   rw [if_pos rfl, if_pos rfl]
   unfold tk
   rw [kn_in h1 h2]
   simp [List.getElem?_eq_getElem h2]
 · rw [if_neg (by omega), if_neg hj]
theorem ok_again {m : Fd} (h : Ok m) (w : Nat) : ∀ n, Ok (again m w n)
 | 0 => h
 | n + 1 => ok_take (ok_again h w n) _
theorem again_right {m : Fd} (h : Ok m) {w : Nat} (h1 : m.first ≤ w) : ∀ n, w + n ≤ m.L.length → ∀ j, isWrong (again m w n) j = (if w ≤ j ∧ j < w + n then false else isWrong m j)
 | 0, _, j => by rw [if_neg (by omega)]; rfl
 | n + 1, h2, j => by
  have e := again_L m w n
  rw [again, take_right (ok_again h w n) (by rw [e.2]; omega) (by rw [e.1]; omega), again_right h h1 n (by omega)]
  by_cases hj : j = w + n
  · rw [if_pos hj, if_pos (by omega)]
  · rw [if_neg hj]
    by_cases hq : w ≤ j ∧ j < w + n
    · rw [if_pos hq, if_pos (by omega)]
    · rw [if_neg hq, if_neg (by omega)]
/-- taken anew from the first wrong frame on, nothing is wrong any more. -/
theorem again_none {m : Fd} (h : Ok m) {w : Nat} (hw : wrong m = some w) : wrong (again m w (m.L.length - w)) = none := by
 obtain ⟨h1, h2, _, h4⟩ := wrong_some hw
 have e := again_L m w (m.L.length - w)
 rw [wrong_none]
 intro k h5 h6
 rw [e.2] at h5
 rw [e.1] at h6
 rw [again_right h h1 _ (by omega)]
 split
 · rfl
 · exact h4 k h5 (by omega)

/-- what Known answers. -/
def knV (m : Fd) (f : Int) : Int := (kn m f).getD 0
def knB (m : Fd) (f : Int) : Bool := (kn m f).isSome
/-- what Wrong answers. -/
def wrongV (m : Fd) : Int := match wrong m with | some k => (k : Int) | none => 0
theorem putM_no {m : Fd} {f a : Int} (h : putE m f a ≠ 0) : putM m f a = m := by unfold putM; rw [if_neg h]
theorem putM_yes {m : Fd} {f a : Int} (h : putE m f a = 0) : putM m f a = { m with L := m.L ++ [a] } := by unfold putM; rw [if_pos h]
theorem gs_put (m : Fd) (a : Int) : gs { m with L := m.L ++ [a] } = a := by simp [gs]
theorem takeM_no {m : Fd} {f : Int} (h : ¬ isTk m f) : takeM m f = m := by unfold takeM; rw [if_neg (fun e => h e.1)]
theorem tk_is (m : Fd) (f : Int) : tk m f = if knB m f = true then knV m f else gs m := by
 unfold tk knB knV
 cases kn m f <;> rfl
end Go.Proofs.YtfclnhmijjlhdaaGreatDoor.Fd

namespace Go.Proofs.YtfclnhmijjlhdaaGreatDoor.Co
open Go.Proofs.YtfclnhmijjlhdaaGreatDoor.Fd (Ok kn gs tk isTk putE putM takeV takeB takeM isWrong wrong trimN trimM fromL knV knB wrongV putM_no putM_yes ok_put ok_take ok_trim kn_in kn_none take_L take_first wrong_some wrong_none wrong_is tk_may)
set_option linter.unusedVariables false
abbrev FD := Go.Proofs.YtfclnhmijjlhdaaGreatDoor.Fd.Fd

/-- a core: its config, its feeds (of players 0 and 1), the states from frame 0 on, what was told last of each frame, from which frame on it is kept. -/
structure Co (σ ε : Type) where
 d : Nat
 w : Nat
 me : Nat
 F : Nat → FD
 S : List σ
 T : List ε
 first : Nat

section
variable {σ ε : Type}
def now (c : Co σ ε) : Nat := c.S.length - 1
def common (c : Co σ ε) : Nat := min (c.F 0).L.length (c.F 1).L.length
def full (c : Co σ ε) : Bool := decide (common c + c.w ≤ now c)
def other (c : Co σ ε) : Nat := 1 - c.me
/-- the first frame that isn't settled. -/
def setN (c : Co σ ε) : Nat := min (min (common c) (now c)) (match wrong (c.F (other c)) with | some k => k | none => now c)
/-- one feed, another. -/
def upF (F : Nat → FD) (i : Nat) (m : FD) : Nat → FD := fun j => if j = i then m else F j
theorem upF_same (F : Nat → FD) (i : Nat) (m : FD) : upF F i m i = m := by simp [upF]
theorem upF_other (F : Nat → FD) {i j : Nat} (m : FD) (h : j ≠ i) : upF F i m j = F j := by simp [upF, h]
/-- an element is set, or stands behind all. -/
def putAt {α : Type} (l : List α) (i : Nat) (x : α) : List α := l.take i ++ x :: l.drop (i + 1)
theorem putAt_len {α : Type} (l : List α) (i : Nat) (x : α) (h : i ≤ l.length) : (putAt l i x).length = max l.length (i + 1) := by
 simp [putAt]; omega
theorem putAt_get {α : Type} (l : List α) (i : Nat) (x : α) (h : i ≤ l.length) (j : Nat) : (putAt l i x)[j]? = if j = i then some x else l[j]? := by
 unfold putAt
 rw [List.getElem?_append, List.length_take, Nat.min_eq_left h]
 by_cases h1 : j < i
 · rw [if_pos h1, if_neg (by omega), List.getElem?_take, if_pos h1]
 · rw [if_neg h1]
   by_cases h2 : j = i
   · subst h2; simp
   · rw [if_neg h2, show j - i = (j - i - 1) + 1 by omega, List.getElem?_cons_succ, List.getElem?_drop]
     congr 1; omega

variable (st : σ → Int → Int → σ × ε)
/-- frame k is played. -/
def play (c : Co σ ε) (k : Nat) : Co σ ε :=
 match c.S[k]? with
 | some s => { c with F := fun i => takeM (c.F i) (k : Int), S := putAt c.S (k + 1) (st s (tk (c.F 0) k) (tk (c.F 1) k)).1, T := putAt c.T k (st s (tk (c.F 0) k) (tk (c.F 1) k)).2 }
 | none => c
/-- so many frames from k on are played. -/
def plays (c : Co σ ε) (k : Nat) : Nat → Co σ ε
 | 0 => c
 | n + 1 => play st (plays c k n) (k + n)

def offerE (c : Co σ ε) (a : Int) : Int := if full c then 9 else if now c + c.d < (c.F c.me).L.length then 7 else putE (c.F c.me) ((c.F c.me).L.length : Int) a
def offerV (c : Co σ ε) (a : Int) : Int := if offerE c a = 0 then ((c.F c.me).L.length : Int) else 0
def offerM (c : Co σ ε) (a : Int) : Co σ ε := if offerE c a = 0 then { c with F := upF c.F c.me (putM (c.F c.me) ((c.F c.me).L.length : Int) a) } else c
def hearE (c : Co σ ε) (f a : Int) : Int := putE (c.F (other c)) f a
def hearM (c : Co σ ε) (f a : Int) : Co σ ε := { c with F := upF c.F (other c) (putM (c.F (other c)) f a) }
def repairM (c : Co σ ε) : Co σ ε := match wrong (c.F (other c)) with | some k => plays st c k (now c - k) | none => c
def stepE (c : Co σ ε) : Int := if (wrong (c.F (other c))).isSome then 11 else if full c ∨ (c.F c.me).L.length ≤ now c then 9 else 0
def stepM (c : Co σ ε) : Co σ ε := if stepE c = 0 then play st c (now c) else c
def freeTo (c : Co σ ε) (f : Int) : Int := if (setN c : Int) < f then (setN c : Int) else f
def freeM (c : Co σ ε) (f : Int) : Co σ ε := { c with F := fun i => trimM (c.F i) (freeTo c f), first := max c.first (freeTo c f).toNat }
def freeN (c : Co σ ε) (f : Int) : Nat := (freeTo c f).toNat - c.first

/-- what holds of cores; U: what was used by each player, by frames. -/
structure Inv (s0 : σ) (c : Co σ ε) (U : Nat → Nat → Int) : Prop where
 me2 : c.me < 2
 lenT : c.T.length + 1 = c.S.length
 ok : ∀ i, i < 2 → Ok (c.F i)
 fst : ∀ i, i < 2 → (c.F i).first = c.first
 own : now c ≤ (c.F c.me).L.length
 ahead : now c ≤ common c + c.w
 us : ∀ i, i < 2 → ∀ k, c.first ≤ k → k < now c → (c.F i).us k = some (U i k)
 un : ∀ i, i < 2 → ∀ k, now c ≤ k → (c.F i).us k = none
 old : ∀ i, i < 2 → ∀ k, k < c.first → (c.F i).L[k]? = some (U i k)
 mine : ∀ k, k < now c → (c.F c.me).L[k]? = some (U c.me k)
 zero : c.S[0]? = some s0
 chain : ∀ k, k < now c → ∃ s s' e, c.S[k]? = some s ∧ c.S[k + 1]? = some s' ∧ c.T[k]? = some e ∧ st s (U 0 k) (U 1 k) = (s', e)
 fle : c.first ≤ setN c
end

section
variable {σ ε : Type} {st : σ → Int → Int → σ × ε} {s0 : σ} {c : Co σ ε} {U : Nat → Nat → Int}
theorem Inv.o2 (h : Inv st s0 c U) : other c < 2 := by unfold other; omega
theorem Inv.two (h : Inv st s0 c U) {i : Nat} (hi : i < 2) : i = c.me ∨ i = other c := by have := h.me2; unfold other; omega
theorem Inv.ne (h : Inv st s0 c U) : other c ≠ c.me := by have := h.me2; unfold other; omega
theorem common_le (c : Co σ ε) {i : Nat} (hi : i < 2) : common c ≤ (c.F i).L.length := by
 unfold common
 rcases i with _ | _ | i
 · omega
 · simp; omega
 · omega
theorem Inv.firstN (h : Inv st s0 c U) : c.first ≤ now c := by have := h.fle; unfold setN at this; omega
theorem Inv.pos (h : Inv st s0 c U) : 0 < c.S.length := (List.getElem?_eq_some_iff.1 h.zero).1
theorem Inv.lenS (h : Inv st s0 c U) : c.S.length = now c + 1 := by have := h.pos; unfold now; omega
theorem Inv.lenT2 (h : Inv st s0 c U) : c.T.length = now c := by have := h.lenT; have := h.lenS; omega
/-- the first wrong frame was played. -/
theorem Inv.wrongLt (h : Inv st s0 c U) {k : Nat} (hw : wrong (c.F (other c)) = some k) : k < now c ∧ k < (c.F (other c)).L.length ∧ c.first ≤ k := by
 obtain ⟨h1, h2, h3, _⟩ := wrong_some hw
 rw [h.fst _ h.o2] at h1
 refine ⟨?_, h2, h1⟩
 rcases Nat.lt_or_ge k (now c) with h4 | h4
 · exact h4
 · unfold isWrong at h3
   rw [h.un _ h.o2 k h4] at h3
   cases h3

/-- of what is settled what was used is what is known. -/
theorem Inv.true_at (h : Inv st s0 c U) {k : Nat} (hk : k < setN c) {i : Nat} (hi : i < 2) : (c.F i).L[k]? = some (U i k) := by
 unfold setN at hk
 rcases h.two hi with rfl | rfl
 · exact h.mine k (by omega)
 · rcases Nat.lt_or_ge k c.first with h1 | h1
   · exact h.old _ hi k h1
   · have hus := h.us _ hi k h1 (by omega)
     have hnw : isWrong (c.F (other c)) k = false := by
      cases hw : wrong (c.F (other c)) with
      | none => exact wrong_none.1 hw k (by rw [h.fst _ hi]; exact h1) (by have := common_le c hi; omega)
      | some w =>
       rw [hw] at hk
       exact (wrong_some hw).2.2.2 k (by rw [h.fst _ hi]; exact h1) (by simp at hk; omega)
     unfold isWrong at hnw
     rw [hus] at hnw
     simpa using hnw

/-- the game, played from the beginning with these inputs: the state at frame k. -/
def runS (st : σ → Int → Int → σ × ε) (s0 : σ) (I : Nat → Nat → Int) : Nat → σ
 | 0 => s0
 | k + 1 => (st (runS st s0 I k) (I 0 k) (I 1 k)).1
theorem runS_congr {I J : Nat → Nat → Int} : ∀ {n : Nat}, (∀ k, k < n → I 0 k = J 0 k ∧ I 1 k = J 1 k) → runS st s0 I n = runS st s0 J n
 | 0, _ => rfl
 | n + 1, h => by
  have h1 := h n (by omega)
  rw [runS, runS, runS_congr (fun k hk => h k (by omega)), h1.1, h1.2]
/-- all that was played, was played with what was used. -/
theorem Inv.run (h : Inv st s0 c U) : ∀ k, k ≤ now c → c.S[k]? = some (runS st s0 U k)
 | 0, _ => h.zero
 | k + 1, hk => by
  obtain ⟨s, s', e, h1, h2, _, h4⟩ := h.chain k (by omega)
  rw [h.run k (by omega)] at h1
  cases h1
  rw [h2, runS, h4]
theorem Inv.told (h : Inv st s0 c U) {k : Nat} (hk : k < now c) : c.T[k]? = some (st (runS st s0 U k) (U 0 k) (U 1 k)).2 := by
 obtain ⟨s, s', e, h1, _, h3, h4⟩ := h.chain k hk
 rw [h.run k (by omega)] at h1
 cases h1
 rw [h3, h4]

theorem inv_new (st : σ → Int → Int → σ × ε) (s0 : σ) (d w me : Nat) (hd : d ≤ 8) (hm : me < 2) : Inv st s0 ⟨d, w, me, fun _ => ⟨List.replicate d 0, 0, fun _ => none⟩, [s0], [], 0⟩ U where
 me2 := hm
 lenT := rfl
 ok := fun i hi => ⟨by simp, by simp; omega, by simp; omega, by intro x hx; have := List.eq_of_mem_replicate hx; omega, by simp, by simp, by simp⟩
 fst := fun i hi => rfl
 own := by simp [now]
 ahead := by simp [now]
 us := fun i hi k h1 h2 => by simp [now] at h2
 un := fun i hi k h1 => rfl
 old := fun i hi k h1 => by simp at h1
 mine := fun k h1 => by simp [now] at h1
 zero := rfl
 chain := fun k h1 => by simp [now] at h1
 fle := by simp

/-- an input is put into one of the feeds. -/
theorem Inv.put (h : Inv st s0 c U) {i : Nat} (hi : i < 2) {f a : Int} (ha : 0 ≤ a) (hE : putE (c.F i) f a = 0) :
 Inv st s0 { c with F := upF c.F i (putM (c.F i) f a) } U ∧ setN c ≤ setN { c with F := upF c.F i (putM (c.F i) f a) } := by
 have hput := putM_yes hE
 obtain ⟨n, hn⟩ : ∃ n, (c.F i).L.length = n := ⟨_, rfl⟩
 have hL : ∀ j : Nat, (upF c.F i (putM (c.F i) f a) j).L = if j = i then (c.F i).L ++ [a] else (c.F j).L := by
  intro j
  unfold upF
  split
  · rw [hput]
  · rfl
 have hus : ∀ (j k : Nat), (upF c.F i (putM (c.F i) f a) j).us k = (c.F j).us k := by
  intro j k
  unfold upF
  split
  · rename_i e; subst e; rw [hput]
  · rfl
 have hfi : ∀ j : Nat, (upF c.F i (putM (c.F i) f a) j).first = (c.F j).first := by
  intro j
  unfold upF
  split
  · rename_i e; subst e; rw [hput]
  · rfl
 have hlen : ∀ j : Nat, (c.F j).L.length ≤ (upF c.F i (putM (c.F i) f a) j).L.length := by
  intro j
  rw [hL]
  split
  · rename_i e; subst e; simp
  · omega
 have hget : ∀ (j k : Nat) (x : Int), (c.F j).L[k]? = some x → (upF c.F i (putM (c.F i) f a) j).L[k]? = some x := by
  intro j k x hx
  rw [hL]
  split
  · rename_i e; subst e
    rw [List.getElem?_append_left (List.getElem?_eq_some_iff.1 hx).1]; exact hx
  · exact hx
 have hcom : common c ≤ common { c with F := upF c.F i (putM (c.F i) f a) } := by
  unfold common
  have h0 := hlen 0
  have h1 := hlen 1
  simp only
  omega
 have hset : setN c ≤ setN { c with F := upF c.F i (putM (c.F i) f a) } := by
  unfold setN
  have hnow : now { c with F := upF c.F i (putM (c.F i) f a) } = now c := rfl
  have hoth : other { c with F := upF c.F i (putM (c.F i) f a) } = other c := rfl
  rw [hnow, hoth]
  simp only
  cases hw : wrong (upF c.F i (putM (c.F i) f a) (other c)) with
  | none => simp only; omega
  | some k =>
   simp only
   obtain ⟨h1, h2, h3, h4⟩ := wrong_some hw
   -- k was wrong before, or it is the frame that is known now
   rcases Nat.lt_or_ge k (c.F (other c)).L.length with h5 | h5
   · have h6 : isWrong (c.F (other c)) k = true := by
      unfold isWrong at h3 ⊢
      rw [hus] at h3
      cases hu : (c.F (other c)).us k with
      | none => rw [hu] at h3; cases h3
      | some x =>
       rw [hu] at h3
       have := hget (other c) k _ (List.getElem?_eq_getElem h5)
       simp only at h3 ⊢
       rw [this] at h3
       rw [List.getElem?_eq_getElem h5]
       exact h3
     rw [hfi] at h1
     have h7 : ∃ k', wrong (c.F (other c)) = some k' ∧ k' ≤ k := by
      cases hw' : wrong (c.F (other c)) with
      | none => have := wrong_none.1 hw' k h1 h5; rw [h6] at this; cases this
      | some k' =>
       refine ⟨k', rfl, ?_⟩
       rcases Nat.lt_or_ge k k' with h8 | h8
       · have := (wrong_some hw').2.2.2 k h1 h8
         rw [h6] at this; cases this
       · exact h8
     obtain ⟨k', h8, h9⟩ := h7
     rw [h8]
     simp only
     omega
   · have := common_le c h.o2
     omega
 refine ⟨⟨h.me2, h.lenT, ?_, ?_, ?_, ?_, ?_, ?_, ?_, ?_, h.zero, h.chain, ?_⟩, hset⟩
 · intro j hj
   show Ok (upF c.F i (putM (c.F i) f a) j)
   unfold upF
   split
   · exact ok_put (h.ok i hi) ha
   · exact h.ok j hj
 · intro j hj
   exact (hfi j).trans (h.fst j hj)
 · exact Nat.le_trans h.own (hlen _)
 · exact Nat.le_trans h.ahead (by have := hcom; show _ ≤ _ + c.w; omega)
 · intro j hj k h1 h2
   exact (hus j k).trans (h.us j hj k h1 h2)
 · intro j hj k h1
   exact (hus j k).trans (h.un j hj k h1)
 · intro j hj k h1
   exact hget j k _ (h.old j hj k h1)
 · intro k h1
   exact hget _ k _ (h.mine k h1)
 · exact Nat.le_trans h.fle hset

theorem Inv.offer (h : Inv st s0 c U) {a : Int} (ha : 0 ≤ a) : Inv st s0 (offerM c a) U ∧ setN c ≤ setN (offerM c a) := by
 unfold offerM
 by_cases he : offerE c a = 0
 · rw [if_pos he]
   have hE : putE (c.F c.me) ((c.F c.me).L.length : Int) a = 0 := by
    unfold offerE at he
    split at he; · cases he
    split at he; · cases he
    exact he
   exact h.put h.me2 ha hE
 · rw [if_neg he]
   exact ⟨h, Nat.le_refl _⟩
theorem Inv.hear (h : Inv st s0 c U) {f a : Int} (ha : 0 ≤ a) : Inv st s0 (hearM c f a) U ∧ setN c ≤ setN (hearM c f a) := by
 unfold hearM
 by_cases he : putE (c.F (other c)) f a = 0
 · exact h.put h.o2 ha he
 · rw [putM_no he]
   have : upF c.F (other c) (c.F (other c)) = c.F := by
    funext j
    unfold upF
    split
    · rename_i e; rw [e]
    · rfl
   rw [this]
   exact ⟨h, Nat.le_refl _⟩
end

end Go.Proofs.YtfclnhmijjlhdaaGreatDoor.Co

namespace Go.Proofs.YtfclnhmijjlhdaaGreatDoor.Co
open Go.Proofs.YtfclnhmijjlhdaaGreatDoor.Fd (Ok kn gs tk isTk putE putM takeV takeB takeM isWrong wrong trimN trimM fromL knV knB wrongV putM_no putM_yes ok_put ok_take ok_trim kn_in kn_none take_L take_first wrong_some wrong_none wrong_is tk_may again again_L ok_again)
set_option linter.unusedVariables false

theorem kn_again (m : FD) (w n : Nat) (f : Int) : kn (again m w n) f = kn m f := by
 have e := again_L m w n
 unfold kn
 rw [e.1, e.2]
theorem tk_again (m : FD) (w n : Nat) (f : Int) : tk (again m w n) f = tk m f := by
 unfold tk gs
 rw [kn_again, (again_L m w n).1]
/-- what was used behind frames that were taken anew. -/
theorem again_us {m : FD} (h : Ok m) {k : Nat} (hk : m.first ≤ k) : ∀ n, k + n ≤ m.first + 64 → k + n ≤ 1073741825 → ∀ j : Nat, (again m k n).us j = if k ≤ j ∧ j < k + n then some (tk m j) else m.us j
 | 0, _, _, j => by rw [if_neg (by omega)]; rfl
 | n + 1, h1, h2, j => by
  have ih := again_us h hk n (by omega) (by omega)
  have e := again_L m k n
  have hc : isTk (again m k n) ((k + n : Nat) : Int) ∧ ((k + n : Nat) : Int) - ((again m k n).first : Int) < 64 := by
   rw [e.2]
   refine ⟨⟨by rw [e.2]; omega, by omega⟩, by omega⟩
  rw [again]
  unfold takeM
  rw [if_pos hc]
  simp only
  by_cases hj : j = k + n
  · rw [if_pos (by omega), if_pos (by omega), tk_again, hj]
  · rw [if_neg (by omega), ih]
    by_cases hq : k ≤ j ∧ j < k + n
    · rw [if_pos hq, if_pos (by omega)]
    · rw [if_neg hq, if_neg (by omega)]
/-- a known frame is taken as it is. -/
theorem tk_known {m : FD} {k : Nat} (h1 : m.first ≤ k) {x : Int} (h2 : m.L[k]? = some x) : tk m (k : Int) = x := by
 have hl := (List.getElem?_eq_some_iff.1 h2).1
 unfold tk
 rw [kn_in h1 hl, Option.getD_some, (List.getElem?_eq_some_iff.1 h2).2]

section
variable {σ ε : Type} (st : σ → Int → Int → σ × ε)
structure Played (c c' : Co σ ε) (k n : Nat) : Prop where
 same : c'.d = c.d ∧ c'.w = c.w ∧ c'.me = c.me ∧ c'.first = c.first
 F : ∀ i, c'.F i = again (c.F i) k n
 lenS : c'.S.length = max c.S.length (k + n + 1)
 lenT : c'.T.length = max c.T.length (k + n)
 lowS : ∀ j, j ≤ k → c'.S[j]? = c.S[j]?
 highS : ∀ j, k + n < j → c'.S[j]? = c.S[j]?
 lowT : ∀ j, j < k → c'.T[j]? = c.T[j]?
 highT : ∀ j, k + n ≤ j → c'.T[j]? = c.T[j]?
 chain : ∀ j, k ≤ j → j < k + n → ∃ s s' e, c'.S[j]? = some s ∧ c'.S[j + 1]? = some s' ∧ c'.T[j]? = some e ∧ st s (tk (c.F 0) j) (tk (c.F 1) j) = (s', e)
theorem played (c : Co σ ε) (k : Nat) (hk : k < c.S.length) (hT : c.T.length + 1 = c.S.length) : ∀ n, k + n ≤ c.S.length → Played st c (plays st c k n) k n
 | 0, _ => ⟨⟨rfl, rfl, rfl, rfl⟩, fun _ => rfl, by simp [plays]; omega, by simp [plays]; omega, fun _ _ => rfl, fun _ _ => rfl, fun _ _ => rfl, fun _ _ => rfl, fun j h1 h2 => by omega⟩
 | n + 1, hn => by
  have ih := played c k hk hT n (by omega)
  have hlS := ih.lenS
  have hlT := ih.lenT
  obtain ⟨s, hs⟩ : ∃ s, (plays st c k n).S[k + n]? = some s := ⟨_, List.getElem?_eq_getElem (by omega)⟩
  have e0 : tk ((plays st c k n).F 0) ((k + n : Nat) : Int) = tk (c.F 0) ((k + n : Nat) : Int) := by rw [ih.F, tk_again]
  have e1 : tk ((plays st c k n).F 1) ((k + n : Nat) : Int) = tk (c.F 1) ((k + n : Nat) : Int) := by rw [ih.F, tk_again]
  obtain ⟨r, hr⟩ : ∃ r, st s (tk (c.F 0) ((k + n : Nat) : Int)) (tk (c.F 1) ((k + n : Nat) : Int)) = r := ⟨_, rfl⟩
  have hp : plays st c k (n + 1) = { plays st c k n with F := fun i => takeM ((plays st c k n).F i) ((k + n : Nat) : Int), S := putAt (plays st c k n).S (k + n + 1) r.1, T := putAt (plays st c k n).T (k + n) r.2 } := by
   show play st (plays st c k n) (k + n) = _
   unfold play
   rw [hs]
   simp only
   rw [e0, e1, hr]
  have hS : ∀ j, (plays st c k (n + 1)).S[j]? = if j = k + n + 1 then some r.1 else (plays st c k n).S[j]? := by
   intro j
   rw [hp]
   exact putAt_get _ _ _ (by omega) j
  have hTt : ∀ j, (plays st c k (n + 1)).T[j]? = if j = k + n then some r.2 else (plays st c k n).T[j]? := by
   intro j
   rw [hp]
   exact putAt_get _ _ _ (by omega) j
  refine ⟨by rw [hp]; exact ih.same, ?_, ?_, ?_, ?_, ?_, ?_, ?_, ?_⟩
  · intro i
    rw [hp, again]
    simp only
    rw [ih.F]
  · rw [hp]
    simp only
    rw [putAt_len _ _ _ (by omega)]
    omega
  · rw [hp]
    simp only
    rw [putAt_len _ _ _ (by omega)]
    omega
  · intro j hj
    rw [hS, if_neg (by omega)]; exact ih.lowS j hj
  · intro j hj
    rw [hS, if_neg (by omega)]; exact ih.highS j (by omega)
  · intro j hj
    rw [hTt, if_neg (by omega)]; exact ih.lowT j hj
  · intro j hj
    rw [hTt, if_neg (by omega)]; exact ih.highT j (by omega)
  · intro j h1 h2
    by_cases hj : j = k + n
    · subst hj
      refine ⟨s, r.1, r.2, ?_, ?_, ?_, hr⟩
      · rw [hS, if_neg (by omega)]; exact hs
      · rw [hS, if_pos rfl]
      · rw [hTt, if_pos rfl]
    · obtain ⟨s1, s2, e2, a1, a2, a3, a4⟩ := ih.chain j h1 (by omega)
      refine ⟨s1, s2, e2, ?_, ?_, ?_, a4⟩
      · rw [hS, if_neg (by omega)]; exact a1
      · rw [hS, if_neg (by omega)]; exact a2
      · rw [hTt, if_neg hj]; exact a3
end

section
variable {σ ε : Type} {st : σ → Int → Int → σ × ε} {s0 : σ} {c : Co σ ε} {U : Nat → Nat → Int}
/-- what is used for frames from k up to k + n. -/
def upU (c : Co σ ε) (U : Nat → Nat → Int) (k n : Nat) : Nat → Nat → Int := fun i j => if k ≤ j ∧ j < k + n then tk (c.F i) (j : Int) else U i j
theorem Inv.few (h : Inv st s0 c U) : now c ≤ c.first + 64 ∧ now c ≤ 1073741825 := by
 have h1 := (h.ok _ h.me2).few
 have h2 := (h.ok _ h.me2).len
 have h3 := h.own
 rw [h.fst _ h.me2] at h1
 omega

/-- frames from k on, up to the current one, are played (again). -/
theorem Inv.played (h : Inv st s0 c U) {k n : Nat} (hk : c.first ≤ k) (hkn : k ≤ now c) (hn : now c ≤ k + n) (hend : k + n ≤ now c + 1) (hown : k + n ≤ (c.F c.me).L.length) (hah : k + n ≤ common c + c.w) (hwr : wrong (c.F (other c)) = none ∨ wrong (c.F (other c)) = some k) :
 Inv st s0 (plays st c k n) (upU c U k n) ∧ setN c ≤ setN (plays st c k n) ∧ wrong ((plays st c k n).F (other c)) = none ∧ now (plays st c k n) = k + n := by
 have hP := Co.played st c k (by have := h.lenS; omega) h.lenT n (by have := h.lenS; omega)
 have hlS := hP.lenS
 have hlenS := h.lenS
 have hnow : now (plays st c k n) = k + n := by unfold now; omega
 have hL : ∀ i, ((plays st c k n).F i).L = (c.F i).L := fun i => by rw [hP.F]; exact (again_L _ _ _).1
 have hfi : ∀ i, ((plays st c k n).F i).first = (c.F i).first := fun i => by rw [hP.F]; exact (again_L _ _ _).2
 have hcom : common (plays st c k n) = common c := by unfold common; rw [hL, hL]
 have hoth : other (plays st c k n) = other c := by unfold other; rw [hP.same.2.2.1]
 have h64 : k + n ≤ c.first + 64 ∧ k + n ≤ 1073741825 := by
  have h1 := (h.ok _ h.me2).few
  have h2 := (h.ok _ h.me2).len
  rw [h.fst _ h.me2] at h1
  omega
 have hus : ∀ i, i < 2 → ∀ j : Nat, ((plays st c k n).F i).us j = if k ≤ j ∧ j < k + n then some (tk (c.F i) j) else (c.F i).us j := by
  intro i hi j
  rw [hP.F]
  exact again_us (h.ok i hi) (by rw [h.fst i hi]; exact hk) n (by rw [h.fst i hi]; exact h64.1) h64.2 j
 have hnone : wrong ((plays st c k n).F (other c)) = none := by
  rw [wrong_none]
  intro j h1 h2
  rw [hfi] at h1
  rw [hL] at h2
  unfold isWrong
  rw [hus _ h.o2, hL]
  by_cases hj : k ≤ j ∧ j < k + n
  · rw [if_pos hj, tk_known h1 (List.getElem?_eq_getElem h2), List.getElem?_eq_getElem h2]
    simp
  · rw [if_neg hj]
    rcases Nat.lt_or_ge j k with h3 | h3
    · have h4 : isWrong (c.F (other c)) j = false := by
       rcases hwr with hw | hw
       · exact wrong_none.1 hw j h1 h2
       · exact (wrong_some hw).2.2.2 j h1 h3
      exact h4
    · rw [h.un _ h.o2 j (by omega)]
 have hset : setN c ≤ setN (plays st c k n) := by
  unfold setN
  rw [hcom, hnow, hoth, hnone]
  simp only
  omega
 refine ⟨⟨by rw [hP.same.2.2.1]; exact h.me2, by rw [hP.lenT, hP.lenS]; have := h.lenT; omega, ?_, ?_, ?_, ?_, ?_, ?_, ?_, ?_, ?_, ?_, ?_⟩, hset, hnone, hnow⟩
 · intro i hi
   rw [hP.F]
   exact ok_again (h.ok i hi) k n
 · intro i hi
   rw [hfi, hP.same.2.2.2]
   exact h.fst i hi
 · rw [hnow, hP.same.2.2.1, hL]; exact hown
 · rw [hnow, hcom, hP.same.2.1]; exact hah
 · intro i hi j h1 h2
   rw [hP.same.2.2.2] at h1
   rw [hnow] at h2
   rw [hus i hi]
   unfold upU
   by_cases hj : k ≤ j ∧ j < k + n
   · rw [if_pos hj, if_pos hj]
   · rw [if_neg hj, if_neg hj]
     exact h.us i hi j h1 (by omega)
 · intro i hi j h1
   rw [hnow] at h1
   rw [hus i hi, if_neg (by omega)]
   exact h.un i hi j (by omega)
 · intro i hi j h1
   rw [hP.same.2.2.2] at h1
   rw [hL]
   unfold upU
   rw [if_neg (by omega)]
   exact h.old i hi j h1
 · intro j h1
   rw [hnow] at h1
   rw [hP.same.2.2.1, hL]
   unfold upU
   by_cases hj : k ≤ j ∧ j < k + n
   · rw [if_pos hj]
     have h5 : (c.F c.me).L[j]? = some ((c.F c.me).L[j]'(by omega)) := List.getElem?_eq_getElem _
     rw [h5, tk_known (by rw [h.fst _ h.me2]; omega) h5]
   · rw [if_neg hj]
     exact h.mine j (by omega)
 · rw [hP.lowS 0 (by omega)]; exact h.zero
 · intro j h1
   rw [hnow] at h1
   unfold upU
   by_cases hj : k ≤ j
   · obtain ⟨s, s', e, a1, a2, a3, a4⟩ := hP.chain j hj h1
     refine ⟨s, s', e, a1, a2, a3, ?_⟩
     rw [if_pos ⟨hj, h1⟩, if_pos ⟨hj, h1⟩]; exact a4
   · obtain ⟨s, s', e, a1, a2, a3, a4⟩ := h.chain j (by omega)
     refine ⟨s, s', e, ?_, ?_, ?_, ?_⟩
     · rw [hP.lowS j (by omega)]; exact a1
     · rw [hP.lowS (j + 1) (by omega)]; exact a2
     · rw [hP.lowT j (by omega)]; exact a3
     · rw [if_neg (by omega), if_neg (by omega)]; exact a4
 · rw [hP.same.2.2.2]
   exact Nat.le_trans h.fle hset

theorem Inv.repair (h : Inv st s0 c U) : ∃ U', Inv st s0 (repairM st c) U' ∧ setN c ≤ setN (repairM st c) ∧ wrong ((repairM st c).F (other c)) = none ∧ now (repairM st c) = now c ∧ other (repairM st c) = other c ∧ common (repairM st c) = common c := by
 unfold repairM
 cases hw : wrong (c.F (other c)) with
 | none => exact ⟨U, h, Nat.le_refl _, hw, rfl, rfl, rfl⟩
 | some k =>
  simp only
  obtain ⟨h1, h2, h3⟩ := h.wrongLt hw
  obtain ⟨a1, a2, a3, a4⟩ := h.played (k := k) (n := now c - k) h3 (by omega) (by omega) (by omega) (by have := h.own; omega) (by have := h.ahead; omega) (.inr hw)
  have hP := Co.played st c k (by have := h.lenS; omega) h.lenT (now c - k) (by have := h.lenS; omega)
  refine ⟨_, a1, a2, a3, by omega, ?_, ?_⟩
  · unfold other; rw [hP.same.2.2.1]
  · unfold common; rw [hP.F, hP.F, (again_L _ _ _).1, (again_L _ _ _).1]
theorem Inv.step (h : Inv st s0 c U) (he : stepE c = 0) : ∃ U', Inv st s0 (play st c (now c)) U' ∧ setN c ≤ setN (play st c (now c)) ∧ now (play st c (now c)) = now c + 1 := by
 unfold stepE at he
 split at he; · cases he
 rename_i hw
 split at he; · cases he
 rename_i hf
 have hw2 : wrong (c.F (other c)) = none := by simpa using hw
 have hf1 : now c < common c + c.w := by
  have : ¬ full c = true := fun e => hf (.inl e)
  unfold full at this
  simpa using this
 have hf2 : now c < (c.F c.me).L.length := Nat.lt_of_not_le fun e => hf (.inr e)
 obtain ⟨a1, a2, a3, a4⟩ := h.played (k := now c) (n := 1) h.firstN (Nat.le_refl _) (by omega) (by omega) (by omega) (by omega) (.inl hw2)
 have e : plays st c (now c) 1 = play st c (now c) := rfl
 rw [e] at a1 a2 a4
 exact ⟨_, a1, a2, a4⟩
theorem Inv.stepM (h : Inv st s0 c U) : ∃ U', Inv st s0 (stepM st c) U' ∧ setN c ≤ setN (stepM st c) := by
 unfold Co.stepM
 by_cases he : stepE c = 0
 · rw [if_pos he]
   obtain ⟨U', h1, h2, _⟩ := h.step he
   exact ⟨U', h1, h2⟩
 · rw [if_neg he]
   exact ⟨U, h, Nat.le_refl _⟩

theorem Inv.free (h : Inv st s0 c U) (f : Int) : Inv st s0 (freeM c f) U ∧ setN (freeM c f) = setN c := by
 have hf : freeTo c f ≤ (setN c : Int) := by unfold freeTo; split <;> omega
 have hle : ∀ i, i < 2 → (setN c : Nat) ≤ (c.F i).L.length := fun i hi => by
  have h1 := common_le c hi
  have h2 : setN c ≤ common c := by unfold setN; omega
  omega
 have hmin : ∀ i, i < 2 → min (freeTo c f) ((c.F i).L.length : Int) = freeTo c f := fun i hi => by have := hle i hi; omega
 have hfi : ∀ i, i < 2 → ((freeM c f).F i).first = (freeM c f).first := by
  intro i hi
  show max (c.F i).first (min (freeTo c f) ((c.F i).L.length : Int)).toNat = max c.first (freeTo c f).toNat
  rw [hmin i hi, h.fst i hi]
 have hL : ∀ i, ((freeM c f).F i).L = (c.F i).L := fun i => rfl
 have hfirst : (freeM c f).first ≤ setN c := by
  show max c.first (freeTo c f).toNat ≤ setN c
  have := h.fle
  omega
 have hus : ∀ i, i < 2 → ∀ j : Nat, (freeM c f).first ≤ j → ((freeM c f).F i).us j = (c.F i).us j := by
  intro i hi j hj
  show (if (j : Int) < min (freeTo c f) ((c.F i).L.length : Int) then none else (c.F i).us j) = _
  rw [hmin i hi, if_neg]
  have : max c.first (freeTo c f).toNat ≤ j := hj
  omega
 have hnow : now (freeM c f) = now c := rfl
 have hcom : common (freeM c f) = common c := rfl
 have hoth : other (freeM c f) = other c := rfl
 have hIW : ∀ j, (freeM c f).first ≤ j → isWrong ((freeM c f).F (other c)) j = isWrong (c.F (other c)) j := by
  intro j hj
  unfold isWrong
  rw [hus _ h.o2 j hj, hL]
 have hwrong : wrong ((freeM c f).F (other c)) = wrong (c.F (other c)) := by
  cases hw : wrong (c.F (other c)) with
  | none =>
   rw [wrong_none]
   intro j h1 h2
   rw [hfi _ h.o2] at h1
   rw [hIW j h1]
   refine wrong_none.1 hw j ?_ h2
   rw [h.fst _ h.o2]
   have : max c.first (freeTo c f).toNat ≤ j := h1
   omega
  | some k =>
   obtain ⟨h1, h2, h3, h4⟩ := wrong_some hw
   have hk : setN c ≤ k := by unfold setN; rw [hw]; simp only; omega
   refine wrong_is (by rw [hfi _ h.o2]; omega) h2 (by rw [hIW k (by omega)]; exact h3) fun j h5 h6 => ?_
   rw [hfi _ h.o2] at h5
   rw [hIW j h5]
   refine h4 j ?_ h6
   rw [h.fst _ h.o2]
   have : max c.first (freeTo c f).toNat ≤ j := h5
   omega
 have hset : setN (freeM c f) = setN c := by
  unfold setN
  rw [hcom, hnow, hoth, hwrong]
 refine ⟨⟨h.me2, h.lenT, fun i hi => ok_trim (h.ok i hi) _, hfi, h.own, h.ahead, ?_, ?_, ?_, h.mine, h.zero, h.chain, by rw [hset]; exact hfirst⟩, hset⟩
 · intro i hi k h1 h2
   rw [hus i hi k h1]
   refine h.us i hi k ?_ h2
   have : max c.first (freeTo c f).toNat ≤ k := h1
   omega
 · intro i hi k h1
   have h2 : (freeM c f).first ≤ k := by
    have h3 : setN c ≤ now c := by unfold setN; omega
    have h4 : now c ≤ k := h1
    omega
   rw [hus i hi k h2]
   exact h.un i hi k h1
 · intro i hi k h1
   rw [hL]
   exact h.true_at (by omega) hi

/-- what is known of a player, by frames. -/
def knownI (c : Co σ ε) : Nat → Nat → Int := fun i k => ((c.F i).L[k]?).getD 0
/-- what is settled is true: its state, and what was told last of it. -/
theorem Inv.settled (h : Inv st s0 c U) : c.S[setN c]? = some (runS st s0 (knownI c) (setN c)) ∧ ∀ k, k < setN c → c.T[k]? = some (st (runS st s0 (knownI c) k) (knownI c 0 k) (knownI c 1 k)).2 := by
 have hn : setN c ≤ now c := by unfold setN; omega
 have hU : ∀ k, k < setN c → U 0 k = knownI c 0 k ∧ U 1 k = knownI c 1 k := by
  intro k hk
  have h0 := h.true_at hk (i := 0) (by omega)
  have h1 := h.true_at hk (i := 1) (by omega)
  unfold knownI
  rw [h0, h1]
  exact ⟨rfl, rfl⟩
 refine ⟨?_, fun k hk => ?_⟩
 · rw [h.run _ hn]
   congr 1
   exact runS_congr hU
 · rw [h.told (by omega), runS_congr (J := knownI c) (fun j hj => hU j (by omega)), (hU k hk).1, (hU k hk).2]
end

end Go.Proofs.YtfclnhmijjlhdaaGreatDoor.Co
