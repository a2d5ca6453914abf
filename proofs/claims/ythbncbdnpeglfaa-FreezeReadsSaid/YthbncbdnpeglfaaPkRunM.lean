/- Plain facts on runs of inputs for layer 6 (pack): their bytes, reading them. Nothing of the program is in this text. -/
import Derived.Test.YthbncbdnpeglfaaPkMath
namespace Go.Proofs.Ythbncbdnpeglfaa.Pk

/-- how many of t, from its first one on, are x. -/
def leadN (x : UInt8) (t : List UInt8) : Nat := (t.takeWhile (· == x)).length
theorem lead_le (x : UInt8) (t : List UInt8) : leadN x t ≤ t.length := (List.takeWhile_sublist (l := t) (p := (· == x))).length_le
theorem lead_nil (x : UInt8) : leadN x [] = 0 := rfl
theorem lead_same (x : UInt8) (t : List UInt8) : leadN x (x :: t) = leadN x t + 1 := by unfold leadN; simp
theorem lead_other (x y : UInt8) (t : List UInt8) (h : y ≠ x) : leadN x (y :: t) = 0 := by unfold leadN; simp [h]
theorem lead_split : ∀ (x : UInt8) (t : List UInt8), t = List.replicate (leadN x t) x ++ t.drop (leadN x t)
  | x, [] => rfl
  | x, y :: t => by
    by_cases h : y = x
    · subst h
      rw [lead_same, List.replicate_succ, List.drop_succ_cons, List.cons_append, ← lead_split y t]
    · rw [lead_other x y t h]; rfl
theorem lead_next : ∀ (x : UInt8) (t : List UInt8), (t.drop (leadN x t)).head? ≠ some x
  | x, [] => by simp
  | x, y :: t => by
    by_cases h : y = x
    · subst h
      rw [lead_same, List.drop_succ_cons]; exact lead_next y t
    · rw [lead_other x y t h]; simpa using h
theorem lead_rep (x : UInt8) (t : List UInt8) (h : t.head? ≠ some x) : ∀ n, leadN x (List.replicate n x ++ t) = n
  | 0 => by
    cases t with
    | nil => rfl
    | cons y t => exact lead_other x y t (by simpa using h)
  | n + 1 => by rw [List.replicate_succ, List.cons_append, lead_same, lead_rep x t h n]

/-- the bytes of the stretches. -/
def strL (l : List UInt8) : List UInt8 :=
  match l with
  | [] => []
  | x :: t => x :: (numL (leadN x t + 1) ++ strL (t.drop (leadN x t)))
termination_by l.length
decreasing_by simp; omega
theorem str_nil : strL [] = [] := by rw [strL]
theorem str_cons (x : UInt8) (t : List UInt8) : strL (x :: t) = x :: (numL (leadN x t + 1) ++ strL (t.drop (leadN x t))) := by rw [strL]
theorem str_rep (x : UInt8) (n : Nat) (t : List UInt8) (hn : 1 ≤ n) (h : t.head? ≠ some x) : strL (List.replicate n x ++ t) = x :: (numL n ++ strL t) := by
  obtain ⟨k, rfl⟩ : ∃ k, n = k + 1 := ⟨n - 1, by omega⟩
  rw [List.replicate_succ, List.cons_append, str_cons, lead_rep x t h, List.drop_left' (by simp)]
/-- the bytes of a run. -/
def runL (l : List UInt8) : List UInt8 := numL l.length ++ strL l
theorem str_len : ∀ (l : List UInt8), l.length < 18446744073709551616 → (strL l).length ≤ 11 * l.length
  | [], _ => by rw [str_nil]; simp
  | x :: t, h => by
    have h1 := lead_le x t
    simp only [List.length_cons] at h
    have h2 := num_len10 (leadN x t + 1) (by omega)
    have h3 := str_len (t.drop (leadN x t)) (by rw [List.length_drop]; omega)
    rw [List.length_drop] at h3
    rw [str_cons]
    simp only [List.length_cons, List.length_append]
    omega
termination_by l => l.length
decreasing_by simp; omega
theorem run_len (l : List UInt8) (h : l.length < 18446744073709551616) : (runL l).length ≤ 11 * l.length + 10 := by
  have := str_len l h
  have := num_len10 l.length h
  unfold runL
  rw [List.length_append]
  omega

/-- is it a run? -/
def lowB (l : List UInt8) : Bool := l.all fun x => decide (x.toNat ≤ 63)
def fitB (l : List UInt8) : Bool := decide (l.length ≤ 64) && lowB l
theorem low_append (l k : List UInt8) : lowB (l ++ k) = (lowB l && lowB k) := by unfold lowB; rw [List.all_append]
theorem low_rep (n : Nat) (x : UInt8) (h : x.toNat ≤ 63) : lowB (List.replicate n x) = true := by
  unfold lowB
  rw [List.all_eq_true]
  intro y hy
  rw [List.eq_of_mem_replicate hy]
  simpa using h
theorem low_drop (l : List UInt8) (k : Nat) (h : lowB l = true) : lowB (l.drop k) = true := by
  unfold lowB at h ⊢
  rw [List.all_eq_true] at h ⊢
  exact fun x hx => h x (List.mem_of_mem_drop hx)

/-- one stretch that bytes begin with, behind 'out', at most 'left': its inputs, how many bytes, the error. -/
def stretchN (s out : List UInt8) (left : Nat) : List UInt8 × Nat × Nat :=
  match s with
  | [] => ([], 0, 3)
  | x :: t =>
    if 63 < x.toNat ∨ out.getLast? = some x then ([], 0, 4)
    else if (rdN t).2.2 ≠ 0 then ([], 0, (rdN t).2.2)
    else if (rdN t).1 = 0 ∨ left < (rdN t).1 then ([], 0, 4)
    else (List.replicate (rdN t).1 x, 1 + (rdN t).2.1, 0)
/-- the stretches that bytes begin with, 'left' inputs in all. -/
def rrN : Nat → List UInt8 → Nat → List UInt8 → Nat → List UInt8 × Nat × Nat
  | 0, _, _, out, at_ => (out, at_, 0)
  | f + 1, s, left, out, at_ =>
    if left = 0 then (out, at_, 0)
    else if (stretchN s out left).2.2 ≠ 0 then ([], 0, (stretchN s out left).2.2)
    else rrN f (s.drop (stretchN s out left).2.1) (left - (stretchN s out left).1.length) (out ++ (stretchN s out left).1) (at_ + (stretchN s out left).2.1)
def readR (s : List UInt8) : List UInt8 × Nat × Nat :=
  if (rdN s).2.2 ≠ 0 then ([], 0, (rdN s).2.2)
  else if 64 < (rdN s).1 then ([], 0, 5)
  else rrN (rdN s).1 (s.drop (rdN s).2.1) (rdN s).1 [] (rdN s).2.1

theorem stretch_or (s out : List UInt8) (left : Nat) : (∃ x t, s = x :: t ∧ x.toNat ≤ 63 ∧ out.getLast? ≠ some x ∧ (rdN t).2.2 = 0 ∧ 1 ≤ (rdN t).1 ∧ (rdN t).1 ≤ left ∧ stretchN s out left = (List.replicate (rdN t).1 x, 1 + (rdN t).2.1, 0)) ∨
    (stretchN s out left = ([], 0, (stretchN s out left).2.2) ∧ ((stretchN s out left).2.2 = 3 ∨ (stretchN s out left).2.2 = 4)) := by
  cases s with
  | nil => right; simp [stretchN]
  | cons x t =>
    unfold stretchN
    by_cases h1 : 63 < x.toNat ∨ out.getLast? = some x
    · right; simp [h1]
    · by_cases h2 : (rdN t).2.2 ≠ 0
      · right
        rcases rd_or t with h | ⟨_, h⟩
        · exact absurd h h2
        · simp only [h1, if_false]
          rw [if_pos h2]
          exact ⟨rfl, h⟩
      · by_cases h3 : (rdN t).1 = 0 ∨ left < (rdN t).1
        · right; simp only [h1, if_false, h2, h3, if_true]; simp
        · left
          refine ⟨x, t, rfl, by omega, fun h => h1 (.inr h), by omega, by omega, by omega, ?_⟩
          simp only [h1, if_false, h2, h3]
theorem stretch_ok (x : UInt8) (t out : List UInt8) (left : Nat) (h1 : x.toNat ≤ 63) (h2 : out.getLast? ≠ some x) (h3 : (rdN t).2.2 = 0) (h4 : 1 ≤ (rdN t).1) (h5 : (rdN t).1 ≤ left) :
    stretchN (x :: t) out left = (List.replicate (rdN t).1 x, 1 + (rdN t).2.1, 0) := by
  have g1 : ¬ (63 < x.toNat ∨ out.getLast? = some x) := by rintro (h | h); omega; exact h2 h
  have g3 : ¬ ((rdN t).1 = 0 ∨ left < (rdN t).1) := by omega
  show (if 63 < x.toNat ∨ out.getLast? = some x then _ else _) = _
  rw [if_neg g1, if_neg (by rw [h3]; simp), if_neg g3]
theorem rr_step (f : Nat) (s : List UInt8) (left : Nat) (out : List UInt8) (at_ : Nat) (h0 : 1 ≤ left) (he : (stretchN s out left).2.2 = 0) :
    rrN (f + 1) s left out at_ = rrN f (s.drop (stretchN s out left).2.1) (left - (stretchN s out left).1.length) (out ++ (stretchN s out left).1) (at_ + (stretchN s out left).2.1) := by
  rw [rrN, if_neg (by omega), if_neg (by rw [he]; simp)]
theorem rr_err (f : Nat) (s : List UInt8) (left : Nat) (out : List UInt8) (at_ : Nat) (h0 : 1 ≤ left) (he : (stretchN s out left).2.2 ≠ 0) :
    rrN (f + 1) s left out at_ = ([], 0, (stretchN s out left).2.2) := by
  rw [rrN, if_neg (by omega), if_pos he]
theorem rr_zero : ∀ (f : Nat) (s : List UInt8) (out : List UInt8) (at_ : Nat), rrN f s 0 out at_ = (out, at_, 0)
  | 0, _, _, _ => rfl
  | f + 1, _, _, _ => by rw [rrN, if_pos rfl]

theorem last_rep (out : List UInt8) (x : UInt8) (n : Nat) (hn : 1 ≤ n) : (out ++ List.replicate n x).getLast? = some x := by
  obtain ⟨k, rfl⟩ : ∃ k, n = k + 1 := ⟨n - 1, by omega⟩
  rw [List.replicate_succ', ← List.append_assoc, List.getLast?_concat]

/-- what is told is read as it was. -/
theorem rr_run : ∀ (f : Nat) (m b out : List UInt8) (at_ : Nat), m.length ≤ f → f < 18446744073709551616 → lowB m = true → (∀ x, m.head? = some x → out.getLast? ≠ some x) →
    rrN f (strL m ++ b) m.length out at_ = (out ++ m, at_ + (strL m).length, 0)
  | f, [], b, out, at_, _, _, _, _ => by rw [str_nil, List.length_nil, rr_zero]; simp
  | 0, x :: t, b, out, at_, hf, _, _, _ => by simp at hf
  | f + 1, x :: t, b, out, at_, hf, hM, hl, hh => by
    have hx : x.toNat ≤ 63 := by unfold lowB at hl; simp at hl; exact hl.1
    have hlast : out.getLast? ≠ some x := hh x rfl
    have h1 := lead_le x t
    simp only [List.length_cons] at hf ⊢
    have hn := rd_num (leadN x t + 1) (strL (t.drop (leadN x t)) ++ b) (by omega)
    have e : strL (x :: t) ++ b = x :: (numL (leadN x t + 1) ++ (strL (t.drop (leadN x t)) ++ b)) := by rw [str_cons, List.cons_append, List.append_assoc]
    have hs : stretchN (strL (x :: t) ++ b) out (t.length + 1) = (List.replicate (leadN x t + 1) x, 1 + (numL (leadN x t + 1)).length, 0) := by
      rw [e, stretch_ok x _ out (t.length + 1) hx hlast (by rw [hn]) (by rw [hn]; simp) (by rw [hn]; simpa using h1), hn]
    have hl2 : lowB (t.drop (leadN x t)) = true := low_drop (x :: t) (leadN x t + 1) hl
    have hd : (t.drop (leadN x t)).length = t.length - leadN x t := List.length_drop
    have ih := rr_run f (t.drop (leadN x t)) b (out ++ List.replicate (leadN x t + 1) x) (at_ + (1 + (numL (leadN x t + 1)).length)) (by omega) (by omega) hl2
      (fun y hy => by
        rw [last_rep _ _ _ (by omega)]
        intro c
        have := lead_next x t
        rw [hy] at this
        exact this c.symm)
    rw [rr_step f _ _ _ _ (by omega) (by rw [hs]), hs, e]
    dsimp only
    have ed : List.drop (1 + (numL (leadN x t + 1)).length) (x :: (numL (leadN x t + 1) ++ (strL (t.drop (leadN x t)) ++ b))) = strL (t.drop (leadN x t)) ++ b := by
      rw [Nat.add_comm, List.drop_succ_cons, List.drop_left' rfl]
    rw [ed, List.length_replicate, show t.length + 1 - (leadN x t + 1) = (t.drop (leadN x t)).length by omega, ih]
    apply Prod.ext
    · show out ++ List.replicate (leadN x t + 1) x ++ t.drop (leadN x t) = out ++ x :: t
      rw [List.append_assoc, List.replicate_succ, List.cons_append, ← lead_split x t]
    · show ((at_ + (1 + (numL (leadN x t + 1)).length) + (strL (t.drop (leadN x t))).length, 0) : Nat × Nat) = (at_ + (strL (x :: t)).length, 0)
      rw [str_cons, List.length_cons, List.length_append]
      congr 1
      omega

theorem fit_len {l : List UInt8} (h : fitB l = true) : l.length ≤ 64 := by unfold fitB at h; simp at h; exact h.1
theorem fit_low {l : List UInt8} (h : fitB l = true) : lowB l = true := by unfold fitB at h; simp at h; exact h.2
theorem readR_run (l b : List UInt8) (h : fitB l = true) : readR (runL l ++ b) = (l, (runL l).length, 0) := by
  have hl := fit_len h
  have hn := rd_num l.length (strL l ++ b) (by omega)
  have e : runL l ++ b = numL l.length ++ (strL l ++ b) := by unfold runL; rw [List.append_assoc]
  unfold readR
  rw [e, hn]
  dsimp only
  rw [if_neg (by simp), if_neg (by omega), List.drop_left' rfl, rr_run l.length l b [] (numL l.length).length (Nat.le_refl _) (by omega) (fit_low h) (by simp)]
  unfold runL
  rw [List.length_append]
  rfl

/-- what is read is told by these bytes. -/
theorem rr_back : ∀ (f : Nat) (s : List UInt8) (left : Nat) (out : List UInt8) (at_ : Nat), left ≤ f → (rrN f s left out at_).2.2 = 0 →
    ∃ m k, rrN f s left out at_ = (out ++ m, at_ + k, 0) ∧ m.length = left ∧ k ≤ s.length ∧ strL m = s.take k ∧ lowB m = true ∧ (∀ x, m.head? = some x → out.getLast? ≠ some x)
  | f, s, 0, out, at_, _, _ => ⟨[], 0, by rw [rr_zero]; simp, rfl, Nat.zero_le _, by rw [str_nil]; simp, rfl, by simp⟩
  | 0, s, left + 1, out, at_, hf, _ => by omega
  | f + 1, s, left + 1, out, at_, hf, h => by
    rcases stretch_or s out (left + 1) with ⟨x, t, rfl, hx, hlast, he, hn1, hn2, hs⟩ | ⟨e1, e2⟩
    · have hb := rd_back t he
      rw [rr_step f _ _ _ _ (by omega) (by rw [hs]), hs] at h ⊢
      dsimp only at h ⊢
      rw [List.length_replicate] at h ⊢
      obtain ⟨m, k, e, h1, h2, h3, h4, h5⟩ := rr_back f _ _ _ _ (by omega) h
      have hhd : m.head? ≠ some x := fun c => h5 x c (last_rep _ _ _ hn1)
      rw [Nat.add_comm 1, List.drop_succ_cons] at h2 h3
      rw [List.length_drop] at h2
      refine ⟨List.replicate (rdN t).1 x ++ m, 1 + (rdN t).2.1 + k, ?_, ?_, ?_, ?_, ?_, ?_⟩
      · rw [e, List.append_assoc, Nat.add_assoc at_]
      · rw [List.length_append, List.length_replicate]; omega
      · rw [List.length_cons]; omega
      · rw [str_rep x _ m hn1 hhd, hb.2.2.1, h3, show 1 + (rdN t).2.1 + k = ((rdN t).2.1 + k) + 1 by omega, List.take_succ_cons, List.take_add]
      · rw [low_append, low_rep _ _ hx, h4]; rfl
      · intro y hy
        obtain ⟨j, hj⟩ : ∃ j, (rdN t).1 = j + 1 := ⟨(rdN t).1 - 1, by omega⟩
        rw [hj, List.replicate_succ, List.cons_append, List.head?_cons] at hy
        injection hy with hy
        rw [← hy]; exact hlast
    · rw [rr_err f _ _ _ _ (by omega) (by omega)] at h
      dsimp only at h
      omega

theorem readR_back (s : List UInt8) (h : (readR s).2.2 = 0) : fitB (readR s).1 = true ∧ (readR s).2.1 ≤ s.length ∧ runL (readR s).1 = s.take (readR s).2.1 := by
  unfold readR at h ⊢
  by_cases h1 : (rdN s).2.2 ≠ 0
  · rw [if_pos h1] at h; exact absurd h h1
  · rw [if_neg h1] at h ⊢
    by_cases h2 : 64 < (rdN s).1
    · rw [if_pos h2] at h; simp at h
    · rw [if_neg h2] at h ⊢
      have hb := rd_back s (by omega)
      obtain ⟨m, k, e, g1, g2, g3, g4, g5⟩ := rr_back _ _ _ _ _ (Nat.le_refl _) h
      rw [e]
      dsimp only
      rw [List.length_drop] at g2
      rw [List.nil_append]
      refine ⟨?_, by omega, ?_⟩
      · unfold fitB; rw [g4, g1]; simp; omega
      · unfold runL
        rw [g1, g3, hb.2.2.1, List.take_add]

/-- an error or what is read: bounds. -/
theorem rr_bd : ∀ (f : Nat) (s : List UInt8) (left : Nat) (out : List UInt8) (at_ : Nat), (rrN f s left out at_).2.2 = 0 ∨ (rrN f s left out at_ = ([], 0, (rrN f s left out at_).2.2) ∧ (rrN f s left out at_).2.2 ≤ 5)
  | 0, s, left, out, at_ => .inl rfl
  | f + 1, s, left, out, at_ => by
    rcases Nat.eq_zero_or_pos left with rfl | h0
    · rw [rr_zero]; exact .inl rfl
    · rcases stretch_or s out left with ⟨x, t, rfl, hx, hlast, he, hn1, hn2, hs⟩ | ⟨e1, e2⟩
      · rw [rr_step f _ _ _ _ h0 (by rw [hs])]; exact rr_bd f _ _ _ _
      · rw [rr_err f _ _ _ _ h0 (by omega)]; right; dsimp only; exact ⟨rfl, by omega⟩
theorem readR_or (s : List UInt8) : (readR s).2.2 = 0 ∨ (readR s = ([], 0, (readR s).2.2) ∧ (readR s).2.2 ≤ 5) := by
  unfold readR
  by_cases h1 : (rdN s).2.2 ≠ 0
  · rw [if_pos h1]; right; have := rd_bd s; dsimp only; exact ⟨rfl, by omega⟩
  · rw [if_neg h1]
    by_cases h2 : 64 < (rdN s).1
    · rw [if_pos h2]; right; dsimp only; exact ⟨rfl, by omega⟩
    · rw [if_neg h2]; exact rr_bd _ _ _ _ _
end Go.Proofs.Ythbncbdnpeglfaa.Pk
