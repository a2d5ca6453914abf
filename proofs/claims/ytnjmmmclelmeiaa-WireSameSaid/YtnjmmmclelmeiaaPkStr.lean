/- What readStretch and ReadRun of layer 6 (pack) return; what they make lies in new memory. -/
import Derived.Test.YtnjmmmclelmeiaaPkRep
namespace Go.Proofs.Ytnjmmmclelmeiaa.Pk
open Go.RowKit Go.Proofs.Ytnjmmmclelmeiaa.Fx

theorem Rd.nil (w : World) : Rd w (.slice none 0 0) [] := ⟨none, 0, 0, rfl, rfl, Nat.le_refl _, by decide, fun h => by simp at h⟩
/-- a call that has read inputs, how many bytes, the error. -/
def Told (r : List UInt8 × Nat × Nat) (w : World) (e : Ending) (w' : World) : Prop := ∃ v, e = .returned (.tuple #[v, .int .i64 (r.2.1 : Int), .int .i64 (r.2.2 : Int)]) ∧ Rd w' v r.1 ∧ Below w.heap.size w w'

theorem tail_list (s : ByteArray) (k : Nat) : (s.extract k s.size).data.toList = s.data.toList.drop k := by
  rw [← ByteArray.toList_eq, Lib.extract_toList, List.take_of_length_le]
  rw [List.length_drop, ← Lib.size_eq]; omega

set_option maxRecDepth 100000 in
set_option maxHeartbeats 2000000 in
theorem stretch_c (s : ByteArray) (v : Value) (out : List UInt8) (left : Nat) (w : World) (hs : s.size ≤ 1073741824) (hv : Rd w v out) (hleft : left ≤ 4096) :
    Calls Try.prog 64 #[.string s, v, .int .i64 (left : Int)] w (Told (stretchN s.data.toList out left) w) := by
  by_cases h0 : s.size = 0
  · have he : s = ⟨#[]⟩ := by
      apply ByteArray.ext
      exact Array.eq_empty_of_size_eq_zero h0
    subst he
    go_enter Try.func64, Try.ntmps64
    go_wp2
    go_ret3
    exact ⟨_, rfl, Rd.nil _, Below.refl _ _⟩
  · have h0' : 0 < s.size := by omega
    have hl : s.data.toList = s[0] :: s.data.toList.drop 1 := by
      have := drop_cons s 0 h0'
      rwa [List.drop_zero] at this
    have hx := s[0].toNat_lt
    have hie : s.toList.isEmpty = false := by
      rw [ByteArray.toList_eq, hl]; rfl
    by_cases h1 : 63 < s[0].toNat
    · have e : stretchN s.data.toList out left = ([], 0, 4) := by
        rw [hl]
        show (if 63 < s[0].toNat ∨ out.getLast? = some s[0] then _ else _) = _
        rw [if_pos (.inl h1)]
      rw [e]
      clear e hl h0
      go_enter Try.func64, Try.ntmps64
      go_wp2
      go_ret3
      exact ⟨_, rfl, Rd.nil _, Below.refl _ _⟩
    · have HE := hid (ends_c v out s[0] w hv)
      by_cases h2 : out.getLast? = some s[0]
      · have e : stretchN s.data.toList out left = ([], 0, 4) := by
          rw [hl]
          show (if 63 < s[0].toNat ∨ out.getLast? = some s[0] then _ else _) = _
          rw [if_pos (.inr h2)]
        rw [e]
        have hb : endB out s[0] = true := by unfold endB; simpa using h2
        rw [hb] at HE
        clear e hl h0 hb h2
        go_enter Try.func64, Try.ntmps64
        go_wp2_with (go_at_call 66; ((with_reducible refine HE.out.mono ?_); rintro e w' ⟨rfl, rfl⟩))
        go_ret3
        exact ⟨_, rfl, Rd.nil _, Below.refl _ _⟩
      · have hb : endB out s[0] = false := by unfold endB; simpa using h2
        rw [hb] at HE
        have c1 := hid (fun W => read_c (s.extract 1 s.size) W (by rw [ByteArray.size_extract]; unfold maxLen; omega))
        rw [tail_list] at c1
        have e : stretchN s.data.toList out left = (if (rdN (s.data.toList.drop 1)).2.2 ≠ 0 then ([], 0, (rdN (s.data.toList.drop 1)).2.2)
            else if (rdN (s.data.toList.drop 1)).1 = 0 ∨ left < (rdN (s.data.toList.drop 1)).1 then ([], 0, 4)
            else (List.replicate (rdN (s.data.toList.drop 1)).1 s[0], 1 + (rdN (s.data.toList.drop 1)).2.1, 0)) := by
          conv => lhs; rw [hl]
          show (if 63 < s[0].toNat ∨ out.getLast? = some s[0] then _ else _) = _
          rw [if_neg (by rintro (h | h); exact h1 h; exact h2 h)]
        rw [e]
        have hr := rd_or (s.data.toList.drop 1)
        have hbd := rd_bd (s.data.toList.drop 1)
        have hsz : (s.data.toList.drop 1).length ≤ 1073741824 := by rw [List.length_drop, ← Lib.size_eq]; omega
        clear e hl h0 hb h2
        generalize rdN (s.data.toList.drop 1) = r at c1 hr hbd
        obtain ⟨a, b, c⟩ := r
        rw [show rdV (a, b, c) = .tuple #[.int .u64 (a : Int), .int .i64 (b : Int), .int .i64 (c : Int)] from rfl] at c1
        dsimp only at hr hbd ⊢
        obtain ⟨hb1, hb2, hb3⟩ := hbd
        have hb2 : b ≤ 1073741824 := by omega
        clear hsz
        by_cases hc : c = 0
        · subst hc
          rw [if_neg (by simp)]
          clear hr
          by_cases ha : a = 0
          · subst ha
            rw [if_pos (.inl rfl)]
            go_enter Try.func64, Try.ntmps64
            go_wp2_with (first
              | (go_at_call 66; ((with_reducible refine HE.out.mono ?_); rintro e w' ⟨rfl, rfl⟩))
              | (go_at_call 63; ((with_reducible refine (c1.out _).mono ?_); rintro e w' ⟨rfl, rfl⟩)))
            go_ret3
            exact ⟨_, rfl, Rd.nil _, Below.refl _ _⟩
          · have ha' : ((a : Int) == 0) = false := by simp; omega
            by_cases hl : left < a
            · rw [if_pos (.inr hl)]
              clear ha
              go_enter Try.func64, Try.ntmps64
              go_wp2_with (first
                | (go_at_call 66; ((with_reducible refine HE.out.mono ?_); rintro e w' ⟨rfl, rfl⟩))
                | (go_at_call 63; ((with_reducible refine (c1.out _).mono ?_); rintro e w' ⟨rfl, rfl⟩)))
              go_ret3
              exact ⟨_, rfl, Rd.nil _, Below.refl _ _⟩
            · rw [if_neg (by omega)]
              have hcell : (w.alloc (.cells #[.int .u8 (s[0].toNat : Int)] 5)).cell? ⟨w.heap.size, 0, none⟩ = some (.int .u8 (s[0].toNat : Int)) := by rw [World.cell?_alloc_mark]; rfl
              have HR := hid (repeat_c s[0] a w.heap.size (w.alloc (.cells #[.int .u8 (s[0].toNat : Int)] 5)) (by omega) (by omega) (by simp) hcell)
              clear ha hcell
              go_enter Try.func64, Try.ntmps64
              go_wp2_with (first
                | (go_at_call 66; ((with_reducible refine HE.out.mono ?_); rintro e w' ⟨rfl, rfl⟩))
                | (go_at_call 63; ((with_reducible refine (c1.out _).mono ?_); rintro e w' ⟨rfl, rfl⟩))
                | (go_at_call 67; ((with_reducible refine HR.out.mono ?_); rintro e w2 ⟨v2, rfl, hv2, hw2⟩)))
              go_ret3
              exact ⟨_, rfl, hv2, ((Below.refl _ w).alloc (Nat.le_refl _) _).trans (hw2.mono (by simp))⟩
        · rw [if_pos hc]
          have hc' : ((c : Int) != 0) = true := by simp; omega
          have ha : a = 0 := by
            rcases hr with h | ⟨h, _⟩
            · exact absurd h hc
            · exact congrArg Prod.fst h
          clear hr hc
          go_enter Try.func64, Try.ntmps64
          go_wp2_with (first
            | (go_at_call 66; ((with_reducible refine HE.out.mono ?_); rintro e w' ⟨rfl, rfl⟩))
            | (go_at_call 63; ((with_reducible refine (c1.out _).mono ?_); rintro e w' ⟨rfl, rfl⟩)))
          go_ret3
          exact ⟨_, rfl, Rd.nil _, Below.refl _ _⟩

theorem Own.old {B : Nat} {v : Value} {l : List UInt8} {W0 w w' : World} (h : Own B v l W0 w) (hb : Below w.heap.size w w') : Own B v l W0 w' := by
  obtain ⟨h1, h2, h3⟩ := h
  refine ⟨⟨h1.1, ?_⟩, h2.trans (hb.mono h3), Nat.le_trans h3 hb.size⟩
  rcases h1.2 with hn | ⟨g, cap, cur, fz, e, hB, hg, rest⟩
  · exact .inl hn
  · refine .inr ⟨g, cap, cur, fz, e, hB, ?_, rest⟩
    rw [hb.block g (Array.getElem?_eq_some_iff.1 hg).1]
    exact hg

/-- append of a slice that reads as k. -/
theorem append_own {ops : Array Oper} {rest : List Oper} {o : Oper} {a : Act} {Q : Exit → Act → World → Prop} (w : World) (hgd : o.guard = none) (s x : Operand)
    (ho : o.op = .call { callee := .builtin .append, args := #[s, x], argTypes := #[24, 24] })
    (B : Nat) (v : Value) (l : List UInt8) (W0 : World) (hs : a.eval s = v) (h : Own B v l W0 w) (b of m cap : Nat) (k : List UInt8) (hx : a.eval x = .slice (some ⟨b, of, none⟩) m cap) (hm : k.length = m)
    (hc : ∀ j (hj : j < k.length), w.cell? ⟨b, of + j, none⟩ = some (.int .u8 (k[j].toNat : Int))) (hlen : l.length + k.length ≤ 140737488355328)
    (hK : ∀ v' w', Own B v' (l ++ k) W0 w' → wpList Try.prog ops Q rest (a.put o.dst v') w') : wpList Try.prog ops Q (o :: rest) a w := by
  obtain ⟨i0, hi, hz⟩ := Option.map_eq_some_iff.1 info_byte
  obtain ⟨hz0, hz1, hz2⟩ := info_parts hz
  subst hm
  refine wpList_append_ownF w hgd s x 24 ho B 5 i0 (.int .u8 0) 1 1 Try.underlying24 hi hz0 hz1 hz2 rfl (by decide) v l.length (Lib.byteCells l) hs h.1 ⟨b, of, none⟩ k.length cap (Lib.byteCells k) hx (by rw [Lib.byteCells_length, Nat.mul_one]) ?_ ?_ (by unfold maxLen; omega) (by omega) h.2.2 ?_
  · intro j u hj
    have hjl : j < k.length := by
      have := (List.getElem?_eq_some_iff.1 hj).1
      rwa [Lib.byteCells_length] at this
    have hu : u = .int .u8 (k[j].toNat : Int) := by
      have e : (Lib.byteCells k)[j]? = some (.int .u8 (k[j].toNat : Int)) := by simp [Lib.byteCells, hjl]
      rw [e] at hj
      injection hj with hj
      exact hj.symm
    subst hu
    rw [← hc j hjl]
    congr 1
    unfold Addr.add
    split <;> simp_all
  · intro u hu
    obtain ⟨c, _, rfl⟩ := List.mem_map.1 hu
    rfl
  · intro v' w' ho' hg _
    have := Lib.OwnBuf.grown h ho' hg
    refine hK v' w' ?_
    unfold Own
    rw [List.length_append, Lib.byteCells_append]
    exact this

/-- what holds at a stretch's head. -/
def RunTo (l : List UInt8) (cnt k lf : Nat) (out : List UInt8) : Prop := ∃ f, k ≤ l.length ∧ out.length + lf = cnt ∧ lf ≤ f ∧ readR l = rrN f (l.drop k) lf out k
theorem RunTo.start {l : List UInt8} (h0 : (rdN l).2.2 = 0) (h1 : ¬ 64 < (rdN l).1) : RunTo l (rdN l).1 (rdN l).2.1 (rdN l).1 [] := by
  refine ⟨(rdN l).1, (rd_bd l).2.1, by simp, Nat.le_refl _, ?_⟩
  unfold readR
  rw [if_neg (by rw [h0]; simp), if_neg h1]
theorem RunTo.fin {l : List UInt8} {cnt k : Nat} {out : List UInt8} (h : RunTo l cnt k 0 out) : readR l = (out, k, 0) := by
  obtain ⟨f, _, _, _, e⟩ := h
  rw [e, rr_zero]
theorem RunTo.err {l : List UInt8} {cnt k lf : Nat} {out : List UInt8} (h : RunTo l cnt k lf out) (h0 : 1 ≤ lf) (he : (stretchN (l.drop k) out lf).2.2 ≠ 0) : readR l = ([], 0, (stretchN (l.drop k) out lf).2.2) := by
  obtain ⟨f, _, _, hf, e⟩ := h
  obtain ⟨f', rfl⟩ : ∃ f', f = f' + 1 := ⟨f - 1, by omega⟩
  rw [e, rr_err f' _ _ _ _ h0 he]
theorem RunTo.next {l : List UInt8} {cnt k lf : Nat} {out : List UInt8} (h : RunTo l cnt k lf out) (h0 : 1 ≤ lf) (he : (stretchN (l.drop k) out lf).2.2 = 0) :
    RunTo l cnt (k + (stretchN (l.drop k) out lf).2.1) (lf - (stretchN (l.drop k) out lf).1.length) (out ++ (stretchN (l.drop k) out lf).1) ∧ 1 ≤ (stretchN (l.drop k) out lf).1.length ∧ (stretchN (l.drop k) out lf).1.length ≤ lf ∧ (stretchN (l.drop k) out lf).2.1 ≤ l.length := by
  obtain ⟨f, hk, hc, hf, e⟩ := h
  obtain ⟨f', rfl⟩ : ∃ f', f = f' + 1 := ⟨f - 1, by omega⟩
  rw [rr_step f' _ _ _ _ h0 he, List.drop_drop] at e
  rcases stretch_or (l.drop k) out lf with ⟨x, t, e1, _, _, h3, h4, h5, h6⟩ | ⟨h3, h4⟩
  · have hb := rd_back t h3
    have hl : (l.drop k).length = t.length + 1 := by rw [e1, List.length_cons]
    rw [List.length_drop] at hl
    rw [h6] at e ⊢
    dsimp only at e ⊢
    rw [List.length_replicate] at e ⊢
    exact ⟨⟨f', by omega, by rw [List.length_append, List.length_replicate]; omega, by omega, e⟩, by omega, by omega, by omega⟩
  · omega
end Go.Proofs.Ytnjmmmclelmeiaa.Pk
