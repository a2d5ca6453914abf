/- Plain facts on the sum of bytes for layer 5 (sum): its halves, by a formula, and its four bytes. Nothing of the program is in this text. -/
import Derived.WalkKit
namespace Go.Proofs.Ythbncbdnpeglfaa.Sm

/-- one byte more: the high half, the low half. -/
def stepP (p : Int × Int) (c : UInt8) : Int × Int := ((p.1 + (p.2 + c.toNat) % 65521) % 65521, (p.2 + c.toNat) % 65521)
def runP (p : Int × Int) (l : List UInt8) : Int × Int := l.foldl stepP p
def startP (n : Int) : Int × Int := (n / 65536 % 65521, n % 65536 % 65521)
/-- a sum, gone on with l. -/
def moreI (n : Int) (l : List UInt8) : Int := (runP (startP n) l).1 * 65536 + (runP (startP n) l).2
def ofI (l : List UInt8) : Int := moreI 1 l
/-- all bytes added; each byte as often as it is in a low half that is added. -/
def slI : List UInt8 → Int | [] => 0 | c :: l => c.toNat + slI l
def shI : List UInt8 → Int | [] => 0 | c :: l => (l.length + 1) * c.toNat + shI l
def InP (p : Int × Int) : Prop := (0 ≤ p.1 ∧ p.1 < 65521) ∧ (0 ≤ p.2 ∧ p.2 < 65521)

theorem start_in (n : Int) : InP (startP n) := by unfold InP startP; omega
theorem step_in (p : Int × Int) (c : UInt8) : InP (stepP p c) := by
  unfold InP stepP
  have h : 0 ≤ (p.2 + c.toNat) % 65521 ∧ (p.2 + c.toNat) % 65521 < 65521 := by omega
  generalize (p.2 + c.toNat) % 65521 = x at h
  constructor <;> dsimp only <;> omega
theorem run_nil (p : Int × Int) : runP p [] = p := rfl
theorem run_cons (p : Int × Int) (c : UInt8) (l : List UInt8) : runP p (c :: l) = runP (stepP p c) l := rfl
theorem run_snoc (p : Int × Int) (c : UInt8) (l : List UInt8) : runP p (l ++ [c]) = stepP (runP p l) c := by simp [runP]
theorem run_append (p : Int × Int) (l k : List UInt8) : runP p (l ++ k) = runP (runP p l) k := by simp [runP]
theorem runs_in : ∀ (l : List UInt8) (p : Int × Int), InP p → InP (runP p l)
  | [], _, h => h
  | c :: l, p, _ => runs_in l _ (step_in p c)

theorem mul_mod (n x : Int) : (n * (x % 65521)) % 65521 = (n * x) % 65521 := by
  rw [Int.mul_emod, Int.emod_emod, ← Int.mul_emod]
theorem step_mod (a b c n s : Int) : ((a + (b + c) % 65521) % 65521 + n * ((b + c) % 65521) + s) % 65521 = (a + (n + 1) * b + ((n + 1) * c + s)) % 65521 := by
  have e := mul_mod n (b + c)
  have e1 : n * (b + c) = n * b + n * c := Int.mul_add _ _ _
  have e2 : (n + 1) * b = n * b + b := by rw [Int.add_mul, Int.one_mul]
  have e3 : (n + 1) * c = n * c + c := by rw [Int.add_mul, Int.one_mul]
  rw [e1] at e
  rw [e2, e3]
  generalize n * ((b + c) % 65521) = X at e ⊢
  generalize n * b = Y at e ⊢
  generalize n * c = Z at e ⊢
  omega

/-- both halves, by a formula. -/
theorem run_is : ∀ (l : List UInt8) (p : Int × Int), InP p → runP p l = ((p.1 + l.length * p.2 + shI l) % 65521, (p.2 + slI l) % 65521)
  | [], p, h => by
    unfold InP at h
    rw [run_nil, List.length_nil]
    simp only [shI, slI]
    apply Prod.ext
    · show p.1 = (p.1 + ((0 : Nat) : Int) * p.2 + 0) % 65521
      rw [show ((0 : Nat) : Int) = 0 from rfl, Int.zero_mul]; omega
    · show p.2 = (p.2 + 0) % 65521
      omega
  | c :: l, p, _ => by
    rw [run_cons, run_is l _ (step_in p c), List.length_cons]
    simp only [shI, slI, stepP]
    apply Prod.ext
    · dsimp only
      rw [step_mod, show (((l.length + 1 : Nat)) : Int) = (l.length : Int) + 1 from by omega]
    · dsimp only
      omega

theorem of_run (l : List UInt8) : ofI l = (runP (0, 1) l).1 * 65536 + (runP (0, 1) l).2 := rfl
theorem more_split (n : Int) (l : List UInt8) : moreI n l / 65536 = (runP (startP n) l).1 ∧ moreI n l % 65536 = (runP (startP n) l).2 := by
  have h := runs_in l _ (start_in n)
  unfold InP at h
  unfold moreI
  omega
theorem more_bd (n : Int) (l : List UInt8) : 0 ≤ moreI n l ∧ moreI n l < 4294967296 := by
  have h := runs_in l _ (start_in n)
  unfold InP at h
  unfold moreI
  omega
theorem start_more (n : Int) (l : List UInt8) : startP (moreI n l) = runP (startP n) l := by
  have h := runs_in l _ (start_in n)
  have e := more_split n l
  unfold InP at h
  unfold startP at h e ⊢
  rw [e.1, e.2]
  apply Prod.ext <;> dsimp only <;> omega
theorem more_more (n : Int) (l k : List UInt8) : moreI (moreI n l) k = moreI n (l ++ k) := by
  show (runP (startP (moreI n l)) k).1 * 65536 + (runP (startP (moreI n l)) k).2 = _
  rw [start_more, ← run_append]; rfl

/-- may a sum be, by its halves? -/
def rightB (n : Int) : Bool := decide (n / 65536 < 65521) && decide (n % 65536 < 65521)
theorem right_more (n : Int) (l : List UInt8) : rightB (moreI n l) = true := by
  have h := runs_in l _ (start_in n)
  have e := more_split n l
  unfold InP at h
  unfold rightB
  rw [e.1, e.2]
  simp; omega

/-- two sums, joined. -/
def joinI (a b n : Int) : Int := ((a / 65536 + b / 65536 + n % 65521 * ((a % 65536 + 65520) % 65521) % 65521) % 65521) * 65536 + (b % 65536 + (a % 65536 + 65520) % 65521) % 65521
theorem join_is (l k : List UInt8) : joinI (ofI l) (ofI k) k.length = ofI (l ++ k) := by
  have e1 := more_split 1 l
  have e2 := more_split 1 k
  have i1 := runs_in l _ (start_in 1)
  have f := run_is k _ (start_in 1)
  have g := run_is k _ i1
  show joinI (moreI 1 l) (moreI 1 k) k.length = (runP (startP 1) (l ++ k)).1 * 65536 + (runP (startP 1) (l ++ k)).2
  unfold joinI
  rw [e1.1, e1.2, e2.1, e2.2, run_append, g, f]
  have s1 : (startP 1).1 = 0 := by decide
  have s2 : (startP 1).2 = 1 := by decide
  rw [s1, s2]
  unfold InP at i1
  generalize runP (startP 1) l = p at i1 ⊢
  obtain ⟨a, b⟩ := p
  dsimp only at i1 ⊢
  have m : ((k.length : Int) % 65521 * ((b + 65520) % 65521)) % 65521 = (k.length * b + 65520 * k.length) % 65521 := by
    rw [← Int.mul_emod, Int.mul_add, Int.mul_comm (k.length : Int) 65520]
  rw [m, Int.mul_one]
  generalize (k.length : Int) * b = X
  omega

/-- the four bytes of a sum, the highest first. -/
def fourL (n : Int) : List UInt8 := [UInt8.ofNat (n / 16777216).toNat, UInt8.ofNat (n / 65536).toNat, UInt8.ofNat (n / 256).toNat, UInt8.ofNat n.toNat]
theorem four_len (n : Int) : (fourL n).length = 4 := rfl
theorem byte_eq (a b : Int) (ha : 0 ≤ a) (hb : 0 ≤ b) (h : UInt8.ofNat a.toNat = UInt8.ofNat b.toNat) : a % 256 = b % 256 := by
  have := congrArg UInt8.toNat h
  simp at this
  omega
theorem four_inj (a b : Int) (ha : 0 ≤ a ∧ a < 4294967296) (hb : 0 ≤ b ∧ b < 4294967296) (h : fourL a = fourL b) : a = b := by
  unfold fourL at h
  simp only [List.cons.injEq, and_true] at h
  obtain ⟨h1, h2, h3, h4⟩ := h
  have e1 := byte_eq _ _ (by omega) (by omega) h1
  have e2 := byte_eq _ _ (by omega) (by omega) h2
  have e3 := byte_eq _ _ (by omega) (by omega) h3
  have e4 := byte_eq _ _ (by omega) (by omega) h4
  omega

theorem sl_append (l k : List UInt8) : slI (l ++ k) = slI l + slI k := by
  induction l with
  | nil => simp [slI]
  | cons c l ih => simp only [List.cons_append, slI, ih]; omega
theorem low_is (l : List UInt8) : ofI l % 65536 = (1 + slI l) % 65521 := by
  have e := more_split 1 l
  have f := run_is l _ (start_in 1)
  show moreI 1 l % 65536 = _
  rw [e.2, f]; rfl
/-- one byte is another one: another sum. -/
theorem turned_low (l k : List UInt8) (c d : UInt8) (h : c ≠ d) : ofI (l ++ c :: k) ≠ ofI (l ++ d :: k) := by
  intro e
  have e1 := low_is (l ++ c :: k)
  have e2 := low_is (l ++ d :: k)
  rw [e, e2, sl_append, sl_append] at e1
  simp only [slI] at e1
  have hc := c.toNat_lt
  have hd := d.toNat_lt
  have hne : c.toNat ≠ d.toNat := fun x => h (UInt8.toNat_inj.1 x)
  omega
end Go.Proofs.Ythbncbdnpeglfaa.Sm
