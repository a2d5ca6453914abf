/- Plain facts for layer 14 (feed): what a feed has, what each call answers and makes of it; what is wrong, and that taken anew nothing is. Of no program. -/
namespace Go.Proofs.Ytkeedegbfpenjaa.Fd

/-- a feed: all inputs that ever were known, from frame 0 on; the first frame that is kept; what was used for a frame, where it is kept. -/
structure Fd where
  L : List Int
  first : Nat
  us : Nat → Option Int

def Fd.next (m : Fd) : Nat := m.L.length
def newF : Fd := ⟨[], 0, fun _ => none⟩
/-- what is known of a frame that is kept. -/
def kn (m : Fd) (f : Int) : Option Int := if (m.first : Int) ≤ f then m.L[f.toNat]? else none
/-- the guess. -/
def gs (m : Fd) : Int := m.L.getLast?.getD 0
/-- what is taken for a frame that is kept, or behind it. -/
def tk (m : Fd) (f : Int) : Int := (kn m f).getD (gs m)
def isTk (m : Fd) (f : Int) : Prop := (m.first : Int) ≤ f ∧ f ≤ 1073741824
instance (m : Fd) (f : Int) : Decidable (isTk m f) := inferInstanceAs (Decidable (_ ∧ _))

def putE (m : Fd) (f a : Int) : Int :=
  if 63 < a ∨ f < 0 ∨ 1073741824 < f then 1 else if f < (m.L.length : Int) then 10 else if (m.L.length : Int) < f then 11 else if 64 ≤ f - (m.first : Int) then 8 else 0
def putM (m : Fd) (f a : Int) : Fd := if putE m f a = 0 then { m with L := m.L ++ [a] } else m
def takeV (m : Fd) (f : Int) : Int := if isTk m f then tk m f else 0
def takeB (m : Fd) (f : Int) : Bool := (kn m f).isSome
def takeM (m : Fd) (f : Int) : Fd := if isTk m f ∧ f - (m.first : Int) < 64 then { m with us := fun k => if (k : Int) = f then some (tk m f) else m.us k } else m
def isWrong (m : Fd) (k : Nat) : Bool := match m.us k with | some x => decide (m.L[k]? ≠ some x) | none => false
/-- the first frame that is known, and kept, for which something else was used. -/
def wrong (m : Fd) : Option Nat := (List.range' m.first (m.L.length - m.first)).find? (isWrong m)
def trimN (m : Fd) (f : Int) : Nat := (min f (m.L.length : Int)).toNat - m.first
def trimM (m : Fd) (f : Int) : Fd := { m with first := max m.first (min f (m.L.length : Int)).toNat, us := fun k => if (k : Int) < min f (m.L.length : Int) then none else m.us k }
def fromL (m : Fd) (f : Int) : List Int := m.L.drop (max (m.first : Int) f).toNat

/-- what holds of feeds. -/
structure Ok (m : Fd) : Prop where
  le : m.first ≤ m.L.length
  few : m.L.length ≤ m.first + 64
  len : m.L.length ≤ 1073741825
  may : ∀ x ∈ m.L, 0 ≤ x ∧ x ≤ 63
  old : ∀ k, k < m.first → m.us k = none
  far : ∀ k, m.first + 64 ≤ k → m.us k = none
  umay : ∀ k x, m.us k = some x → 0 ≤ x ∧ x ≤ 63

theorem ok_new : Ok newF := ⟨by simp [newF], by simp [newF], by simp [newF], by simp [newF], by simp [newF], by simp [newF], by simp [newF]⟩
theorem gs_may {m : Fd} (h : Ok m) : 0 ≤ gs m ∧ gs m ≤ 63 := by
  unfold gs
  cases hl : m.L.getLast? with
  | none => simp
  | some x => simpa using h.may x (List.mem_of_getLast? hl)
theorem kn_may {m : Fd} (h : Ok m) {f x : Int} (hk : kn m f = some x) : 0 ≤ x ∧ x ≤ 63 := by
  unfold kn at hk
  split at hk
  · exact h.may x (List.mem_of_getElem? hk)
  · cases hk
theorem tk_may {m : Fd} (h : Ok m) (f : Int) : 0 ≤ tk m f ∧ tk m f ≤ 63 := by
  unfold tk
  cases hk : kn m f with
  | none => simpa using gs_may h
  | some x => simpa using kn_may h hk
theorem ok_put {m : Fd} (h : Ok m) {f a : Int} (ha : 0 ≤ a) : Ok (putM m f a) := by
  unfold putM
  by_cases he : putE m f a = 0
  · rw [if_pos he]
    unfold putE at he
    split at he; · cases he
    rename_i h1
    split at he; · cases he
    split at he; · cases he
    split at he; · cases he
    refine ⟨?_, ?_, ?_, ?_, h.old, h.far, h.umay⟩
    · have := h.le; simp; omega
    · simp; omega
    · simp; omega
    · intro x hx
      rcases List.mem_append.1 hx with hx | hx
      · exact h.may x hx
      · have : x = a := by simpa using hx
        subst this; omega
  · rw [if_neg he]; exact h
theorem ok_take {m : Fd} (h : Ok m) (f : Int) : Ok (takeM m f) := by
  unfold takeM
  by_cases hc : isTk m f ∧ f - (m.first : Int) < 64
  · rw [if_pos hc]
    obtain ⟨⟨h1, h2⟩, h3⟩ := hc
    refine ⟨h.le, h.few, h.len, h.may, ?_, ?_, ?_⟩
    · intro k hk; simp only; rw [if_neg (by dsimp only at hk; omega)]; exact h.old k hk
    · intro k hk; simp only; rw [if_neg (by dsimp only at hk; omega)]; exact h.far k hk
    · intro k x hx
      dsimp only at hx
      split at hx
      · cases hx; exact tk_may h f
      · exact h.umay k x hx
  · rw [if_neg hc]; exact h
theorem ok_trim {m : Fd} (h : Ok m) (f : Int) : Ok (trimM m f) := by
  have h1 := h.le
  have h2 := h.few
  refine ⟨?_, ?_, h.len, h.may, ?_, ?_, ?_⟩
  · simp only [trimM]; omega
  · simp only [trimM]; omega
  · intro k hk
    simp only [trimM] at hk ⊢
    split
    · rfl
    · exact h.old k (by omega)
  · intro k hk
    simp only [trimM] at hk ⊢
    split
    · rfl
    · exact h.far k (by omega)
  · intro k x hx
    simp only [trimM] at hx
    split at hx
    · cases hx
    · exact h.umay k x hx

theorem wrong_some {m : Fd} {w : Nat} (h : wrong m = some w) : m.first ≤ w ∧ w < m.L.length ∧ isWrong m w = true ∧ ∀ k, m.first ≤ k → k < w → isWrong m k = false := by
  unfold wrong at h
  have hm := List.mem_of_find?_eq_some h
  have hp := List.find?_some h
  rw [List.mem_range'_1] at hm
  refine ⟨hm.1, by omega, hp, fun k h1 h2 => ?_⟩
  rw [List.find?_range'_eq_some] at h
  simpa using h.2.2 k h1 h2
theorem wrong_none {m : Fd} : wrong m = none ↔ ∀ k, m.first ≤ k → k < m.L.length → isWrong m k = false := by
  unfold wrong
  rw [List.find?_eq_none]
  constructor
  · intro h k h1 h2
    simpa using h k (by rw [List.mem_range'_1]; omega)
  · intro h k hk
    rw [List.mem_range'_1] at hk
    simpa using h k hk.1 (by omega)
theorem wrong_is {m : Fd} {w : Nat} (h1 : m.first ≤ w) (h2 : w < m.L.length) (h3 : isWrong m w = true) (h4 : ∀ k, m.first ≤ k → k < w → isWrong m k = false) : wrong m = some w := by
  unfold wrong
  rw [List.find?_range'_eq_some]
  exact ⟨h3, by rw [List.mem_range'_1]; omega, fun k h5 h6 => by simp [h4 k h5 h6]⟩

/-- taken anew: frames w to k - 1 of what is known. -/
def again (m : Fd) (w : Nat) : Nat → Fd
  | 0 => m
  | n + 1 => takeM (again m w n) ((w + n : Nat) : Int)
theorem take_L (m : Fd) (f : Int) : (takeM m f).L = m.L := by unfold takeM; split <;> rfl
theorem take_first (m : Fd) (f : Int) : (takeM m f).first = m.first := by unfold takeM; split <;> rfl
theorem again_L (m : Fd) (w : Nat) : ∀ n, (again m w n).L = m.L ∧ (again m w n).first = m.first
  | 0 => ⟨rfl, rfl⟩
  | n + 1 => ⟨(take_L _ _).trans (again_L m w n).1, (take_first _ _).trans (again_L m w n).2⟩
theorem kn_in {m : Fd} {k : Nat} (h1 : m.first ≤ k) (h2 : k < m.L.length) : kn m (k : Int) = some (m.L[k]'h2) := by
  unfold kn
  rw [if_pos (by omega), Int.toNat_natCast, List.getElem?_eq_getElem h2]
theorem kn_none {m : Fd} {f : Int} (h : f < (m.first : Int) ∨ (m.L.length : Int) ≤ f) : kn m f = none := by
  unfold kn
  split
  · exact List.getElem?_eq_none (by omega)
  · rfl
theorem take_right {m : Fd} (h : Ok m) {k : Nat} (h1 : m.first ≤ k) (h2 : k < m.L.length) (j : Nat) : isWrong (takeM m (k : Int)) j = (if j = k then false else isWrong m j) := by
  have h3 := h.few
  have h4 := h.len
  have hc : isTk m (k : Int) ∧ (k : Int) - (m.first : Int) < 64 := ⟨⟨by omega, by omega⟩, by omega⟩
  unfold isWrong
  rw [take_L]
  unfold takeM
  rw [if_pos hc]
  dsimp only
  by_cases hj : j = k
  · subst hj
    rw [if_pos rfl, if_pos rfl]
    unfold tk
    rw [kn_in h1 h2]
    simp [List.getElem?_eq_getElem h2]
  · rw [if_neg (by omega), if_neg hj]
theorem ok_again {m : Fd} (h : Ok m) (w : Nat) : ∀ n, Ok (again m w n)
  | 0 => h
  | n + 1 => ok_take (ok_again h w n) _
theorem again_right {m : Fd} (h : Ok m) {w : Nat} (h1 : m.first ≤ w) : ∀ n, w + n ≤ m.L.length → ∀ j, isWrong (again m w n) j = (if w ≤ j ∧ j < w + n then false else isWrong m j)
  | 0, _, j => by rw [if_neg (by omega)]; rfl
  | n + 1, h2, j => by
    have e := again_L m w n
    rw [again, take_right (ok_again h w n) (by rw [e.2]; omega) (by rw [e.1]; omega), again_right h h1 n (by omega)]
    by_cases hj : j = w + n
    · rw [if_pos hj, if_pos (by omega)]
    · rw [if_neg hj]
      by_cases hq : w ≤ j ∧ j < w + n
      · rw [if_pos hq, if_pos (by omega)]
      · rw [if_neg hq, if_neg (by omega)]
/-- taken anew from the first wrong frame on, nothing is wrong any more. -/
theorem again_none {m : Fd} (h : Ok m) {w : Nat} (hw : wrong m = some w) : wrong (again m w (m.L.length - w)) = none := by
  obtain ⟨h1, h2, _, h4⟩ := wrong_some hw
  have e := again_L m w (m.L.length - w)
  rw [wrong_none]
  intro k h5 h6
  rw [e.2] at h5
  rw [e.1] at h6
  rw [again_right h h1 _ (by omega)]
  split
  · rfl
  · exact h4 k h5 (by omega)
end Go.Proofs.Ytkeedegbfpenjaa.Fd
