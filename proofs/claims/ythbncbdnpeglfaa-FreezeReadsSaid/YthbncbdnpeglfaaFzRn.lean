/- The document's Numbers and fix (layer 13, freeze). -/
import Derived.Test.YthbncbdnpeglfaaFzDi
import Derived.Test.YthbncbdnpeglfaaFzRp
namespace Go.Proofs.Ythbncbdnpeglfaa.Fz
open Go.RowKit
open Go.Proofs.Ythbncbdnpeglfaa.Ev (At)
open Go.Proofs.Ythbncbdnpeglfaa.Gm (hid Pl Bu St plC plA buC buA stC zeroP zeroB zeroS plS setP shS setS rightS takeW wpList_load_at)
open Go.Proofs.Ythbncbdnpeglfaa.Pk (numL rdN rdV sgnN unsN num_pos rd_num rd_or rd_bd rd_back rread_c)
set_option linter.unusedVariables false

/-- numbers' bytes, one behind the other. -/
def flatN (l : List Nat) : List UInt8 := l.flatMap numL
def bd64 (l : List Nat) : Prop := ∀ n, n ∈ l → n < 18446744073709551616
theorem flat_cons (n : Nat) (l : List Nat) : flatN (n :: l) = numL n ++ flatN l := rfl
theorem flat_app (l m : List Nat) : flatN (l ++ m) = flatN l ++ flatN m := by simp [flatN]
theorem flat_one (n : Nat) : flatN [n] = numL n := by simp [flatN]
theorem bd_app {l m : List Nat} (h : bd64 l) (k : bd64 m) : bd64 (l ++ m) := fun n hn => by
  rcases List.mem_append.1 hn with a | a
  · exact h n a
  · exact k n a
theorem bd_tail {n : Nat} {l : List Nat} (h : bd64 (n :: l)) : bd64 l := fun k hk => h k (List.mem_cons_of_mem _ hk)
theorem bd_head {n : Nat} {l : List Nat} (h : bd64 (n :: l)) : n < 18446744073709551616 := h n List.mem_cons_self
theorem flat_pos (n : Nat) (l : List Nat) : flatN (n :: l) ≠ [] := by
  intro e
  have := congrArg List.length e
  rw [flat_cons, List.length_append, List.length_nil] at this
  have := num_pos n
  omega
theorem flat_inj : ∀ (l m : List Nat), bd64 l → bd64 m → flatN l = flatN m → l = m
  | [], [], _, _, _ => rfl
  | [], n :: m, _, _, h => absurd h.symm (flat_pos n m)
  | n :: l, [], _, _, h => absurd h (flat_pos n l)
  | n :: l, k :: m, hl, hm, h => by
    rw [flat_cons, flat_cons] at h
    have a := rd_num n (flatN l) (bd_head hl)
    rw [h, rd_num k (flatN m) (bd_head hm)] at a
    obtain rfl : k = n := congrArg Prod.fst a
    rw [flat_inj l m (bd_tail hl) (bd_tail hm) (List.append_cancel_left h)]
theorem flat_num {l : List Nat} {σ : List UInt8} (hb : bd64 l) (h : flatN l = σ) (h0 : 0 < σ.length) : ∃ n m, l = n :: m ∧ rdN σ = (n, (numL n).length, 0) ∧ flatN m = σ.drop (numL n).length ∧ bd64 m := by
  subst h
  cases l with
  | nil => exact absurd h0 (by simp [flatN])
  | cons n m =>
    refine ⟨n, m, rfl, ?_, ?_, bd_tail hb⟩
    · rw [flat_cons]; exact rd_num n _ (bd_head hb)
    · rw [flat_cons]; simp

/-- a list of numbers in memory. -/
def natC (l : List Nat) : List Value := l.map fun (n : Nat) => Value.int .u64 (n : Int)
theorem natC_snoc (l : List Nat) (n : Nat) : natC (l ++ [n]) = natC l ++ [.int .u64 (n : Int)] := by simp [natC]
theorem info_u64 : (Try.prog.info? 73).map (fun i => (i.zero, i.size, i.bytes)) = some (some (.int .u64 0), 1, 8) := by kernel_rfl
def Ns (w : World) (ao : Option Addr) (l : List Nat) : Prop :=
  0 < l.length → ∃ b o, ao = some ⟨b, o, none⟩ ∧ b < w.heap.size ∧ ∀ j (h : j < l.length), w.cell? ⟨b, o + j, none⟩ = some (.int .u64 (l[j] : Int))
def NumsV (w : World) (v : Value) (l : List Nat) : Prop := ∃ ao L cap, v = .slice ao L cap ∧ l.length = L ∧ L ≤ cap ∧ cap ≤ 9223372036854775807 ∧ Ns w ao l
theorem Ns.below {w w' : World} {ao : Option Addr} {l : List Nat} (h : Ns w ao l) (hb : Below w.heap.size w w') : Ns w' ao l := fun hl => by
  obtain ⟨b, o, e, hlt, hc⟩ := h hl
  exact ⟨b, o, e, Nat.lt_of_lt_of_le hlt hb.size, fun j hj => (hb.cell (p := ⟨b, o + j, none⟩) hlt).trans (hc j hj)⟩
theorem Ns.cut {w : World} {ao : Option Addr} {l : List Nat} (h : Ns w ao l) (k cap : Nat) (hk : k ≤ l.length) (hc : l.length ≤ cap) :
    Ns w (if cap = k then ao else ao.map (·.add k)) (l.drop k) := fun hl => by
  rw [List.length_drop] at hl
  obtain ⟨b, o, rfl, hlt, hcell⟩ := h (by omega)
  rw [if_neg (by omega)]
  refine ⟨b, o + k, ?_, hlt, fun j hj => ?_⟩
  · show some ((⟨b, o, none⟩ : Addr).add k) = _
    unfold Addr.add
    split <;> simp_all
  · rw [List.length_drop] at hj
    have := hcell (k + j) (by omega)
    rw [← Nat.add_assoc] at this
    rw [this]
    simp
theorem nums_of {B : Nat} {v : Value} {l : List Nat} {W0 w : World} (h : Lib.OwnBuf B 73 v l.length (natC l) W0 w) : NumsV w v l := by
  obtain ⟨ho, _, _⟩ := h
  rcases ho.2 with ⟨rfl, h0⟩ | ⟨g, cap, cur, fz, rfl, _, hg, _, hn, hm, _⟩
  · exact ⟨none, 0, 0, rfl, h0, Nat.le_refl _, by decide, fun h => by omega⟩
  · have hc := ho.cells (g := g) rfl
    refine ⟨_, _, cap, rfl, rfl, hn, by unfold maxLen at hm; omega, fun _ => ⟨g, 0, rfl, (Array.getElem?_eq_some_iff.1 hg).1, fun j hj => ?_⟩⟩
    have := hc j (.int .u64 (l[j] : Int)) (by simp [natC, hj])
    rw [← this]
    congr 1
    unfold Addr.add
    split <;> simp_all
theorem own_empty (w : World) : Lib.OwnBuf w.heap.size 73 (.slice (some ⟨w.heap.size, 0, none⟩) 0 0) 0 [] w (w.alloc (.cells #[] 73)) :=
  ⟨⟨rfl, .inr ⟨w.heap.size, 0, #[], (0, 0), rfl, Nat.le_refl _, heap_alloc_new w _, Nat.le_refl _, Nat.le_refl _, by unfold maxLen; omega, rfl, rfl⟩⟩, (Below.refl _ w).alloc (Nat.le_refl _) _, by simp⟩
def strLen : Value → Nat
  | .string s => s.size
  | _ => 0
theorem cut_list (x : ByteArray) (k : Nat) : (x.extract k x.size).data.toList = x.data.toList.drop k := by
  rw [ByteArray.data_extract, Array.toList_extract, Lib.size_eq]
  simp only [List.extract_eq_take_drop]
  rw [List.take_of_length_le (by rw [List.length_drop]; exact Nat.le_refl _)]
theorem cut_size (x : ByteArray) (k : Nat) : (x.extract k x.size).size = x.size - k := by
  rw [Lib.size_eq, cut_list, List.length_drop, ← Lib.size_eq]

/-- what Numbers answers. -/
def NumsOf (s : List UInt8) (B : Nat) (w : World) (e : Ending) (w' : World) : Prop :=
  Below B w w' ∧ ((∃ v l, e = .returned (.tuple #[v, .bool true]) ∧ NumsV w' v l ∧ bd64 l ∧ l.length ≤ 1000 ∧ flatN l = s) ∨ (e = .returned (.tuple #[.slice none 0 0, .bool false]) ∧ ∀ l, bd64 l → flatN l ≠ s))

set_option maxRecDepth 100000 in
set_option maxHeartbeats 4000000 in
theorem numbers_c (s : ByteArray) (w : World) (hs : s.size ≤ 1000) :
    Calls Try.prog 26 #[.string s] w (NumsOf s.data.toList w.heap.size w) := by
  have c1 := hid (fun x W (h : x.size ≤ 1000) => rread_c x W (by unfold maxLen; omega))
  obtain ⟨i0, hi, hz⟩ := Option.map_eq_some_iff.1 info_u64
  obtain ⟨hz0, hz1, hz2⟩ := Pk.info_parts hz
  have HI := hid hi
  have H0 := hid hz0
  have H1 := hid hz1
  have H2 := hid hz2
  clear hi hz hz0 hz1 hz2
  go_enter Try.func26, Try.ntmps26
  go_wp2_with fail
  go_loopw [0, 4] (fun z u wr => ∃ (x : ByteArray) (l : List Nat), z = .string x ∧ l.length + x.size ≤ 1000 ∧ Lib.OwnBuf w.heap.size 73 u l.length (natC l) w wr ∧ Hid (s.data.toList = flatN l ++ x.data.toList) ∧ Hid (bd64 l) ∧ Hid (∀ m, bd64 m → flatN m = s.data.toList → ∃ r, bd64 r ∧ flatN r = x.data.toList)) (fun z _ _ => strLen z)
  case atStart => exact ⟨s, [], rfl, by simpa using hs, own_empty w, hid rfl, hid (fun n hn => by simp at hn), hid (fun m h1 h2 => ⟨m, h1, h2⟩)⟩
  case round =>
    obtain ⟨x, l, rfl, hl, ho, hE, hB, hU⟩ := hrel
    have HO := hid ho
    clear ho
    have hsz := Lib.size_eq x
    have hx9 : x.size ≤ 9223372036854775807 := by omega
    by_cases h0 : 0 < x.size
    · have hc := c1.out x
      have hor := rd_or x.data.toList
      have hbd := rd_bd x.data.toList
      have hbk := rd_back x.data.toList
      have hfn := fun (r : List Nat) (h1 : bd64 r) (h2 : flatN r = x.data.toList) => flat_num h1 h2 (by omega)
      generalize rdN x.data.toList = q at hc hor hbd hbk hfn
      obtain ⟨n, k, c⟩ := q
      dsimp only at hor hbd hbk hfn
      rw [show rdV (n, k, c) = .tuple #[.int .u64 (n : Int), .int .i64 (k : Int), .int .i64 (c : Int)] from rfl] at hc
      by_cases hc0 : c = 0
      · subst hc0
        obtain ⟨hk1, hk2, hk3, hk4⟩ := hbk rfl
        have hk5 : k ≤ x.size := by omega
        have HE2 : Hid (s.data.toList = flatN (l ++ [n]) ++ (x.extract k x.size).data.toList) := hid (by
          rw [hE.out, flat_app, flat_one, cut_list, hk3, List.append_assoc, List.take_append_drop])
        have HB2 : Hid (bd64 (l ++ [n])) := hid (bd_app hB.out (fun y hy => by simp at hy; omega))
        have HU2 : Hid (∀ m, bd64 m → flatN m = s.data.toList → ∃ r, bd64 r ∧ flatN r = (x.extract k x.size).data.toList) := hid (fun m h1 h2 => by
          obtain ⟨r, h3, h4⟩ := hU.out m h1 h2
          obtain ⟨n', m', _, h5, h6, h7⟩ := hfn r h3 h4
          have e1 : k = (numL n').length := congrArg (fun q => q.2.1) h5
          exact ⟨m', h7, by rw [h6, cut_list, e1]⟩)
        have HX2 := hid (cut_size x k)
        clear hor hbd hbk hfn hk3 hE hB hU hk2 hsz
        go_upto_region 6 with (go_at_call 41; ((with_reducible refine (hc _ (by omega)).mono ?_); rintro e w' ⟨rfl, rfl⟩))
        go_wp2_with (first
          | (at_builtin; (refine app_one rfl (.tmp 20) (.tmp 22) 75 rfl w.heap.size 73 i0 (.int .u64 0) 8 Try.underlying75 HI.out H0.out H1.out H2.out rfl _ _ _ rfl w _ (.int .u64 (n : Int)) rfl HO.out rfl (by omega) (by decide) ?_; intro v' w' hO' hgr; have HO' := hid hO'; clear hO' hgr)))
        go_roundw
        case rel => exact ⟨_, l ++ [n], rfl, by rw [HX2.out, List.length_append]; simp only [List.length_singleton]; omega, by rw [List.length_append, natC_snoc]; exact HO'.out, HE2, HB2, HU2⟩
        case measure => show (x.extract k x.size).size < x.size; rw [HX2.out]; omega
      · have hc3 : c ≤ 4 := hbd.2.2
        have hc' : ((c : Int) != 0) = true := by simp; omega
        have HN : Hid (∀ m, bd64 m → flatN m ≠ s.data.toList) := hid (fun m h1 h2 => by
          obtain ⟨r, h3, h4⟩ := hU.out m h1 h2
          obtain ⟨n', m', _, h5, _, _⟩ := hfn r h3 h4
          exact hc0 (congrArg (fun q => q.2.2) h5))
        clear hor hbk hfn hE hB hU hbd hsz hc0
        go_wp2_with (go_at_call 41; ((with_reducible refine (hc _ (by omega)).mono ?_); rintro e w' ⟨rfl, rfl⟩))
        go_ret2
        exact ⟨HO.out.2.1, .inr ⟨rfl, HN.out⟩⟩
    · have hx0 : x.data.toList = [] := List.length_eq_zero_iff.1 (by omega)
      have HF : Hid (flatN l = s.data.toList) := hid (by rw [hE.out, hx0, List.append_nil])
      have hx1 : x = ⟨#[]⟩ := ByteArray.ext (Array.eq_empty_of_size_eq_zero (show x.data.size = 0 from (show x.size = 0 by omega)))
      clear hx0 hE hU hsz h0
      subst hx1
      go_wp2_with fail
      go_ret2
      exact ⟨HO.out.2.1, .inl ⟨_, l, rfl, nums_of HO.out, hB.out, by omega, HF.out⟩⟩

theorem fix_c (n : Nat) (w : World) (h : n ≤ 4294967295) :
    Calls Try.prog 27 #[.int .u64 (n : Int)] w fun e w' => e = .returned (.int .i32 (unsN n)) ∧ w = w' := by
  have e2 : n % 2 = 0 ∨ n % 2 = 1 := by omega
  rcases e2 with e2 | e2
  · have hb : ((n : Int) % 2 == 0) = true := by simp; omega
    have hu : unsN n = (n : Int) / 2 := by unfold unsN; rw [if_neg (by omega)]; omega
    rw [hu]
    clear hu
    go_enter Try.func27, Try.ntmps27
    go_wp2_with fail
    go_ret
    exact ⟨rfl, rfl⟩
  · have hb : ((n : Int) % 2 == 0) = false := by simp; omega
    have hu : unsN n = -((n : Int) / 2) - 1 := by unfold unsN; rw [if_pos e2]; omega
    rw [hu]
    clear hu
    go_enter Try.func27, Try.ntmps27
    go_wp2_with fail
    go_ret
    exact ⟨rfl, rfl⟩
end Go.Proofs.Ythbncbdnpeglfaa.Fz
