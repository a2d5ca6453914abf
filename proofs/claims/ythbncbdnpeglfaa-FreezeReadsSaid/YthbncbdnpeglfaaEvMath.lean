/- Keys and events as numbers: which may be, which key stands ahead, lists in order, one more put among them (layer 11, event). -/
import Derived.Test.YthbncbdnpeglfaaFxMath
namespace Go.Proofs.Ythbncbdnpeglfaa.Ev
open Go
set_option linter.unusedVariables false

/-- a key. -/
structure Ky where
  f : Int
  e : Int
  k : Int
  o : Int
deriving DecidableEq, Inhabited
/-- an event. -/
structure Ev where
  key : Ky
  a : Int
  g : Int
  p : Int
  r : Int
  l : Int
deriving DecidableEq, Inhabited

def inB (x a b : Int) : Bool := decide (a ≤ x) && decide (x ≤ b)
def keyB (k : Ky) : Bool := inB k.f 0 1073741824 && inB k.e 0 2 && inB k.k 1 9 && inB k.o 0 15
def evB (x : Ev) : Bool := keyB x.key && inB x.a 0 31 && inB x.g 0 32768 && inB x.p (-32768) 32768 && inB x.r 0 15 && inB x.l 0 600
def cmpI (a b : Int) : Int := if a < b then -1 else if b < a then 1 else 0
def orI (a b : Int) : Int := if a = 0 then b else a
def cmpK (a b : Ky) : Int := orI (cmpI a.f b.f) (orI (cmpI a.e b.e) (orI (cmpI a.k b.k) (cmpI a.o b.o)))
/-- the key stands ahead of the other one. -/
def ltK (a b : Ky) : Prop := a.f < b.f ∨ (a.f = b.f ∧ (a.e < b.e ∨ (a.e = b.e ∧ (a.k < b.k ∨ (a.k = b.k ∧ a.o < b.o)))))
instance (a b : Ky) : Decidable (ltK a b) := by unfold ltK; infer_instance

theorem cmpI_cases (a b : Int) : (a < b ∧ cmpI a b = -1) ∨ (b < a ∧ cmpI a b = 1) ∨ (a = b ∧ cmpI a b = 0) := by
  unfold cmpI
  by_cases h1 : a < b
  · exact .inl ⟨h1, by simp [h1]⟩
  · by_cases h2 : b < a
    · exact .inr (.inl ⟨h2, by simp [h1, h2]⟩)
    · exact .inr (.inr ⟨by omega, by simp [h1, h2]⟩)
theorem ext_ky {a b : Ky} (h1 : a.f = b.f) (h2 : a.e = b.e) (h3 : a.k = b.k) (h4 : a.o = b.o) : a = b := by
  cases a; cases b; simp at h1 h2 h3 h4; simp [h1, h2, h3, h4]
theorem ext_ev {a b : Ev} (h0 : a.key = b.key) (h1 : a.a = b.a) (h2 : a.g = b.g) (h3 : a.p = b.p) (h4 : a.r = b.r) (h5 : a.l = b.l) : a = b := by
  cases a; cases b; simp at h0 h1 h2 h3 h4 h5; simp [h0, h1, h2, h3, h4, h5]
theorem cmpK_cases (a b : Ky) : (ltK a b ∧ cmpK a b = -1) ∨ (ltK b a ∧ cmpK a b = 1) ∨ (a = b ∧ cmpK a b = 0) := by
  unfold ltK cmpK orI
  rcases cmpI_cases a.f b.f with ⟨h, e⟩ | ⟨h, e⟩ | ⟨h, e⟩ <;> rw [e]
  · left; simp; omega
  · right; left; simp; omega
  rcases cmpI_cases a.e b.e with ⟨h2, e2⟩ | ⟨h2, e2⟩ | ⟨h2, e2⟩ <;> rw [e2]
  · left; simp; omega
  · right; left; simp; omega
  rcases cmpI_cases a.k b.k with ⟨h3, e3⟩ | ⟨h3, e3⟩ | ⟨h3, e3⟩ <;> rw [e3]
  · left; simp; omega
  · right; left; simp; omega
  rcases cmpI_cases a.o b.o with ⟨h4, e4⟩ | ⟨h4, e4⟩ | ⟨h4, e4⟩ <;> rw [e4]
  · left; simp; omega
  · right; left; simp; omega
  · right; right; exact ⟨ext_ky h h2 h3 h4, by simp⟩
theorem ltK_irr (a : Ky) : ¬ ltK a a := by unfold ltK; omega
theorem ltK_trans {a b c : Ky} (h1 : ltK a b) (h2 : ltK b c) : ltK a c := by unfold ltK at *; omega
theorem ltK_asymm {a b : Ky} (h1 : ltK a b) : ¬ ltK b a := by unfold ltK at *; omega
theorem ltK_total {a b : Ky} (h : ¬ ltK a b) : ltK b a ∨ a = b := by
  rcases cmpK_cases a b with ⟨h1, _⟩ | ⟨h1, _⟩ | ⟨h1, _⟩
  · exact (h h1).elim
  · exact .inl h1
  · exact .inr h1
theorem cmpK_lt (a b : Ky) : cmpK a b < 0 ↔ ltK a b := by
  rcases cmpK_cases a b with ⟨h1, e⟩ | ⟨h1, e⟩ | ⟨h1, e⟩ <;> rw [e]
  · simp [h1]
  · simp [ltK_asymm h1]
  · subst h1; simp [ltK_irr]
theorem cmpK_zero (a b : Ky) : cmpK a b = 0 ↔ a = b := by
  rcases cmpK_cases a b with ⟨h1, e⟩ | ⟨h1, e⟩ | ⟨h1, e⟩ <;> rw [e]
  · simp; rintro rfl; exact ltK_irr _ h1
  · simp; rintro rfl; exact ltK_irr _ h1
  · simp [h1]
theorem cmpK_neg (a b : Ky) : cmpK b a = -cmpK a b := by
  rcases cmpK_cases a b with ⟨h1, e⟩ | ⟨h1, e⟩ | ⟨h1, e⟩ <;> rcases cmpK_cases b a with ⟨h2, e2⟩ | ⟨h2, e2⟩ | ⟨h2, e2⟩ <;> rw [e, e2]
  all_goals first
    | rfl
    | exact (ltK_asymm h1 h2).elim
    | (subst h1; exact (ltK_irr _ h2).elim)
    | (subst h2; exact (ltK_irr _ h1).elim)
theorem cmpK_bd (a b : Ky) : -1 ≤ cmpK a b ∧ cmpK a b ≤ 1 := by
  rcases cmpK_cases a b with ⟨h1, e⟩ | ⟨h1, e⟩ | ⟨h1, e⟩ <;> rw [e] <;> decide
theorem cmpK_le (a b : Ky) : cmpK a b ≤ 0 ↔ ¬ ltK b a := by
  rcases cmpK_cases a b with ⟨h1, e⟩ | ⟨h1, e⟩ | ⟨h1, e⟩ <;> rw [e]
  · simp [ltK_asymm h1]
  · simp [h1]
  · subst h1; simp [ltK_irr]
theorem cmpK_ge (a b : Ky) : 0 ≤ cmpK a b ↔ ¬ ltK a b := by
  have := cmpK_lt a b
  by_cases h : ltK a b <;> simp [h] at this ⊢ <;> omega

/-- keys that rise. -/
def up (l : List Ky) : Prop := l.Pairwise ltK
instance (l : List Ky) : Decidable (up l) := by unfold up; infer_instance
/-- the keys of some events. -/
abbrev keys (l : List Ev) : List Ky := l.map Ev.key
/-- keys that may be, and rise. -/
def risB (l : List Ky) : Bool := l.all keyB && decide (up l)
/-- a list in order. -/
def ordB (l : List Ev) : Bool := l.all evB && decide (up (keys l)) && decide (l.length ≤ 64)

theorem up_nil : up [] := List.Pairwise.nil
theorem up_snoc {l : List Ky} (h : up l) (x : Ky) (hx : ∀ y, l.getLast? = some y → ltK y x) : up (l ++ [x]) := by
  unfold up at *
  rw [List.pairwise_append]
  refine ⟨h, List.pairwise_singleton _ _, fun a ha b hb => ?_⟩
  simp at hb
  subst hb
  cases hl : l.getLast? with
  | none => rw [List.getLast?_eq_none_iff] at hl; subst hl; simp at ha
  | some y =>
    have hy := hx y hl
    obtain ⟨m, rfl⟩ := List.getLast?_eq_some_iff.1 hl
    rw [List.pairwise_append] at h
    simp at ha
    rcases ha with ha | rfl
    · exact ltK_trans (h.2.2 a ha y (by simp)) hy
    · exact hy
theorem up_last {l : List Ky} {x y : Ky} (h : up (l ++ [x])) (hl : l.getLast? = some y) : ltK y x := by
  unfold up at h
  rw [List.pairwise_append] at h
  obtain ⟨m, rfl⟩ := List.getLast?_eq_some_iff.1 hl
  exact h.2.2 y (by simp) x (by simp)
theorem up_nodup {l : List Ky} (h : up l) : l.Nodup := by
  refine List.Pairwise.imp (R := ltK) ?_ h
  intro a b hab e
  subst e
  exact ltK_irr _ hab

/-- an event among some in order, ahead of those that aren't ahead of it. -/
def putL (x : Ev) : List Ev → List Ev
  | [] => [x]
  | y :: l => if cmpK x.key y.key ≤ 0 then x :: y :: l else y :: putL x l
def sortL (l : List Ev) : List Ev := l.foldl (fun o x => putL x o) []
/-- no key stands ahead of an earlier one. -/
def wk (l : List Ev) : Prop := l.Pairwise fun a b => ¬ ltK b.key a.key

theorem leK_trans {a b c : Ky} (h1 : ¬ ltK b a) (h2 : ¬ ltK c b) : ¬ ltK c a := by
  intro h
  rcases ltK_total h2 with h3 | h3
  · exact h1 (ltK_trans h3 h)
  · subst h3; exact h1 h
theorem put_perm (x : Ev) : ∀ l, (putL x l).Perm (x :: l)
  | [] => List.Perm.refl _
  | y :: l => by
    unfold putL
    split
    · exact List.Perm.refl _
    · exact ((put_perm x l).cons y).trans (List.Perm.swap x y l)
theorem put_wk (x : Ev) : ∀ {l}, wk l → wk (putL x l)
  | [], _ => List.pairwise_singleton _ _
  | y :: l, h => by
    have h' := h
    unfold wk at h
    rw [List.pairwise_cons] at h
    unfold putL
    split
    · rename_i hc
      rw [cmpK_le] at hc
      unfold wk
      rw [List.pairwise_cons]
      refine ⟨fun z hz => ?_, h'⟩
      simp at hz
      rcases hz with rfl | hz
      · exact hc
      · exact leK_trans hc (h.1 z hz)
    · rename_i hc
      rw [cmpK_le] at hc
      unfold wk
      rw [List.pairwise_cons]
      refine ⟨fun z hz => ?_, put_wk x h.2⟩
      have := (put_perm x l).mem_iff.1 hz
      simp at this
      rcases this with rfl | hz
      · exact fun hh => hc (fun hh2 => ltK_asymm hh hh2)
      · exact h.1 z hz
theorem foldl_put_perm : ∀ (l o : List Ev), (l.foldl (fun o x => putL x o) o).Perm (l ++ o)
  | [], o => List.Perm.refl _
  | x :: l, o => by
    simp only [List.foldl_cons]
    refine (foldl_put_perm l _).trans ?_
    refine ((put_perm x o).append_left l).trans ?_
    exact List.perm_middle
theorem foldl_put_wk : ∀ (l o : List Ev), wk o → wk (l.foldl (fun o x => putL x o) o)
  | [], o, h => h
  | x :: l, o, h => foldl_put_wk l _ (put_wk x h)
theorem sort_perm (l : List Ev) : (sortL l).Perm l := by simpa [sortL] using foldl_put_perm l []
theorem sort_wk (l : List Ev) : wk (sortL l) := foldl_put_wk l [] List.Pairwise.nil
theorem put_len (x : Ev) (l : List Ev) : (putL x l).length = l.length + 1 := by simpa using (put_perm x l).length_eq

theorem up_wk {l : List Ev} (h : up (keys l)) : wk l := by
  unfold up keys at h
  rw [List.pairwise_map] at h
  exact h.imp fun hab => ltK_asymm hab
theorem wk_up : ∀ {l : List Ev}, wk l → (keys l).Nodup → up (keys l)
  | [], _, _ => List.Pairwise.nil
  | x :: l, h, hn => by
    unfold wk at h
    rw [List.pairwise_cons] at h
    simp only [keys, List.map_cons, List.nodup_cons] at hn
    unfold up
    simp only [keys, List.map_cons, List.pairwise_cons]
    refine ⟨fun k hk => ?_, wk_up h.2 hn.2⟩
    simp at hk
    obtain ⟨y, hy, rfl⟩ := hk
    rcases ltK_total (h.1 y hy) with h2 | h2
    · exact h2
    · exact (hn.1 (by rw [← h2]; exact List.mem_map_of_mem hy)).elim
/-- two lists of the same events in order are one. -/
theorem up_eq : ∀ {a b : List Ev}, a.Perm b → up (keys a) → up (keys b) → a = b
  | [], b, h, _, _ => (List.perm_nil.1 h.symm).symm
  | x :: a, [], h, _, _ => (List.perm_nil.1 h)
  | x :: a, y :: b, h, ha, hb => by
    have ha' := ha
    have hb' := hb
    unfold up at ha hb
    simp only [keys, List.map_cons, List.pairwise_cons] at ha hb
    have hxy : x = y := by
      have h1 := h.mem_iff (a := x)
      have h2 := h.mem_iff (a := y)
      simp at h1 h2
      rcases h1 with h1 | h1
      · exact h1
      rcases h2 with h2 | h2
      · exact h2.symm
      exact (ltK_asymm (ha.1 y.key (List.mem_map_of_mem h2)) (hb.1 x.key (List.mem_map_of_mem h1))).elim
    subst hxy
    rw [up_eq (List.Perm.cons_inv h) ha.2 hb.2]
theorem wk_eq {a b : List Ev} (h : a.Perm b) (ha : wk a) (hb : up (keys b)) : a = b :=
  up_eq h (wk_up ha ((h.map Ev.key).nodup_iff.2 (up_nodup hb))) hb
/-- of two lists of the same events whose keys don't fall both rise, or none. -/
theorem wk_iff {a b : List Ev} (h : a.Perm b) (ha : wk a) (hb : wk b) : up (keys a) ↔ up (keys b) :=
  ⟨fun hu => wk_up hb ((h.map Ev.key).nodup_iff.1 (up_nodup hu)), fun hu => wk_up ha ((h.map Ev.key).nodup_iff.2 (up_nodup hu))⟩
theorem all_perm {a b : List Ev} (h : a.Perm b) (q : Ev → Bool) : a.all q = b.all q := by
  rw [Bool.eq_iff_iff, List.all_eq_true, List.all_eq_true]
  exact ⟨fun ha x hx => ha x (h.mem_iff.2 hx), fun hb x hx => hb x (h.mem_iff.1 hx)⟩

/-- the event of a key. -/
def getK (l : List Ev) (k : Ky) : Option Ev := l.find? fun x => decide (x.key = k)
theorem getK_some {l : List Ev} {k : Ky} {x : Ev} (h : getK l k = some x) : x ∈ l ∧ x.key = k := by
  unfold getK at h
  exact ⟨List.mem_of_find?_eq_some h, by simpa using List.find?_some h⟩
theorem getK_none {l : List Ev} {k : Ky} : getK l k = none ↔ k ∉ keys l := by
  unfold getK
  rw [List.find?_eq_none]
  simp
theorem nodup_key : ∀ {l : List Ev}, (keys l).Nodup → ∀ {x y : Ev}, x ∈ l → y ∈ l → x.key = y.key → x = y
  | [], _, _, _, h, _, _ => by simp at h
  | z :: l, hn, x, y, hx, hy, e => by
    simp only [keys, List.map_cons, List.nodup_cons] at hn
    simp at hx hy
    rcases hx with rfl | hx <;> rcases hy with rfl | hy
    · rfl
    · exact (hn.1 (by rw [e]; exact List.mem_map_of_mem hy)).elim
    · exact (hn.1 (by rw [← e]; exact List.mem_map_of_mem hx)).elim
    · exact nodup_key hn.2 hx hy e
theorem getK_mem {l : List Ev} (hn : (keys l).Nodup) {x : Ev} (hx : x ∈ l) : getK l x.key = some x := by
  cases h : getK l x.key with
  | none => exact (getK_none.1 h (List.mem_map_of_mem hx)).elim
  | some y => rw [nodup_key hn (getK_some h).1 hx (getK_some h).2]

end Go.Proofs.Ythbncbdnpeglfaa.Ev
