/- The statement WireSame of layer 7 (wire), as a walk: the law, called with any two datagrams, returns true and leaves the old memory as it was. -/
import Derived.Test.YtnjmmmclelmeiaaWrLaws
namespace Go.Proofs.Ytnjmmmclelmeiaa.Wr
open Go.RowKit Go.Proofs.Ytnjmmmclelmeiaa.Fx Go.Proofs.Ytnjmmmclelmeiaa.Pk

/-- what packing answers, in letters: the bytes, the error. -/
theorem pack_a (v : Value) (m : Dg) (w : World) (h : Holds w v m) :
    Calls Try.prog 8 #[v] w fun e w' => ∃ (S : ByteArray) (c : Int), e = .returned (.tuple #[.string S, .int .i64 c]) ∧ Hid ((c = 0 ∧ RightD m ∧ S = Sm.sealS ⟨(msgL m).toArray⟩) ∨ (c = 1 ∧ ¬ RightD m ∧ S = ⟨#[]⟩)) ∧ Below w.heap.size w w' := by
  by_cases hr : RightD m
  · exact (pack_ok v m w h hr).mono fun e w' ⟨he, hb⟩ => ⟨_, 0, he, .inl ⟨rfl, hr, rfl⟩, hb⟩
  · exact (pack_no v m w h hr).mono fun e w' ⟨he, hb⟩ => ⟨_, 1, he, .inr ⟨rfl, hr, rfl⟩, hb⟩

/-- unlike datagrams have unlike bytes. -/
theorem bytes_same {a b : Dg} (ha : RightD a) (hb : RightD b) (ia : InD a) (ib : InD b) {S T : ByteArray} (hS : S = Sm.sealS ⟨(msgL a).toArray⟩) (hT : T = Sm.sealS ⟨(msgL b).toArray⟩) : (S.toList == T.toList) = sameB a b := by
  rw [Bool.eq_iff_iff, same_iff]
  simp only [beq_iff_eq]
  constructor
  · intro h
    rw [ByteArray.toList_eq, ByteArray.toList_eq] at h
    have h1 := (tell_pack a ha ia S hS).1
    have h2 := (tell_pack b hb ib T hT).1
    rw [h] at h1
    exact (tell_one h1 h2).1
  · rintro rfl
    rw [hS, hT]

set_option maxHeartbeats 4000000 in
theorem same_w (a b : Dg) (ao bo : Option Addr) (L cap L' cap' : Nat) (w : World) (hra : Rd w (.slice ao L cap) a.inputs) (hrb : Rd w (.slice bo L' cap') b.inputs) (hia : InD a) (hib : InD b) :
    Calls Try.prog 6 #[.agg (cellsD a (.slice ao L cap)), .agg (cellsD b (.slice bo L' cap'))] w fun e w' => e = .returned (.bool true) ∧ Below w.heap.size w w' := by
  have hA0 := hid ((St.new w a ao L cap).grow (box_below _ (.cells (cellsD b (.slice bo L' cap')) 26)))
  have hB0 : Hid (St w (w.heap.size + 1) b bo L' cap' ((w.alloc (.cells (cellsD a (.slice ao L cap)) 26)).alloc (.cells (cellsD b (.slice bo L' cap')) 26))) := by
    refine ⟨?_, hA0.out.below⟩
    have := Box.new (w.alloc (.cells (cellsD a (.slice ao L cap)) 26)) b (.slice bo L' cap')
    rwa [show (w.alloc (.cells (cellsD a (.slice ao L cap)) 26)).heap.size = w.heap.size + 1 by simp] at this
  have HA := fun W (h : St w w.heap.size a ao L cap W) => hid (h.holds hra hia)
  have HB := fun W (h : St w (w.heap.size + 1) b bo L' cap' W) => hid (h.holds hrb hib)
  have HIA := hid hia
  have HIB := hid hib
  clear hra hrb hia hib
  by_cases h1 : 200 < L
  · go_enter Try.func6, Try.ntmps6
    go_wp2_with (go_at_call 7; ((with_reducible refine (awake_c _).mono ?_); rintro e y1 ⟨rfl, hy1⟩; have hA1 := hid (hA0.out.grow hy1); have hB1 := hid (hB0.out.grow hy1); obtain ⟨c0, c1, c2, c3, c4, c5, c6⟩ := hA1.out.box.cells; obtain ⟨d0, d1, d2, d3, d4, d5, d6⟩ := hB1.out.box.cells; clear hy1))
    go_ret
    exact ⟨rfl, hA1.out.below⟩
  by_cases h2 : 200 < L'
  · go_enter Try.func6, Try.ntmps6
    go_wp2_with (go_at_call 7; ((with_reducible refine (awake_c _).mono ?_); rintro e y1 ⟨rfl, hy1⟩; have hA1 := hid (hA0.out.grow hy1); have hB1 := hid (hB0.out.grow hy1); obtain ⟨c0, c1, c2, c3, c4, c5, c6⟩ := hA1.out.box.cells; obtain ⟨d0, d1, d2, d3, d4, d5, d6⟩ := hB1.out.box.cells; clear hy1))
    go_ret
    exact ⟨rfl, hA1.out.below⟩
  go_enter Try.func6, Try.ntmps6
  go_upto_region 8 with (first
    | (go_at_call 7; ((with_reducible refine (awake_c _).mono ?_); rintro e y1 ⟨rfl, hy1⟩; have hA1 := hid (hA0.out.grow hy1); have hB1 := hid (hB0.out.grow hy1); obtain ⟨c0, c1, c2, c3, c4, c5, c6⟩ := hA1.out.box.cells; obtain ⟨d0, d1, d2, d3, d4, d5, d6⟩ := hB1.out.box.cells; clear hy1))
    | (go_at_call 13; (refine (rsame_c _ _ a b _ (HA _ hA1.out).out (HB _ hB1.out).out).mono ?_; rintro e y2 ⟨rfl, hy2⟩; have hA2 := hid (hA1.out.grow hy2); have hB2 := hid (hB1.out.grow hy2); obtain ⟨c0, c1, c2, c3, c4, c5, c6⟩ := hA2.out.box.cells; obtain ⟨d0, d1, d2, d3, d4, d5, d6⟩ := hB2.out.box.cells; clear hy2))
    | (go_at_call 8; (refine (pack_a _ b _ (HB _ hB3.out).out).mono ?_; rintro e y4 ⟨T, t, rfl, HT, hy4⟩; have hA4 := hid (hA3.out.grow hy4); have hB4 := hid (hB3.out.grow hy4); obtain ⟨c0, c1, c2, c3, c4, c5, c6⟩ := hA4.out.box.cells; obtain ⟨d0, d1, d2, d3, d4, d5, d6⟩ := hB4.out.box.cells; clear hy4))
    | (go_at_call 8; (refine (pack_a _ a _ (HA _ hA2.out).out).mono ?_; rintro e y3 ⟨S, s, rfl, HS, hy3⟩; have hA3 := hid (hA2.out.grow hy3); have hB3 := hid (hB2.out.grow hy3); obtain ⟨c0, c1, c2, c3, c4, c5, c6⟩ := hA3.out.box.cells; obtain ⟨d0, d1, d2, d3, d4, d5, d6⟩ := hB3.out.box.cells; clear hy3)))
  have HW := hid (wsame_c _ _ a b y4 (HA _ hA4.out).out (HB _ hB4.out).out)
  rcases HS.out with ⟨rfl, ra, eS⟩ | ⟨rfl, _, _⟩
  · rcases HT.out with ⟨rfl, rb, eT⟩ | ⟨rfl, _, _⟩
    · have hst := bytes_same ra rb HIA.out HIB.out eS eT
      clear HS HT ra rb eS eT
      generalize sameB a b = sb at HW hst ⊢
      go_wp2_with (go_at_call 16; (refine HW.out.mono ?_; rintro e y5 ⟨rfl, hy5⟩))
      go_ret
      exact ⟨ret_bool (by cases sb <;> rfl), bt hA4.out.below hy5⟩
    · clear HS HT ra eS
      generalize sameB a b = sb at HW ⊢
      go_wp2_with (go_at_call 16; (refine HW.out.mono ?_; rintro e y5 ⟨rfl, hy5⟩))
      go_ret
      exact ⟨ret_bool (by cases sb <;> rfl), bt hA4.out.below hy5⟩
  · clear HS HT
    generalize sameB a b = sb at HW ⊢
    go_wp2_with (go_at_call 16; (refine HW.out.mono ?_; rintro e y5 ⟨rfl, hy5⟩))
    go_ret
    exact ⟨ret_bool (by cases sb <;> rfl), bt hA4.out.below hy5⟩
end Go.Proofs.Ytnjmmmclelmeiaa.Wr
