/- EventBytes, walked: unlike events have unlike bytes (layer 11, event). -/
import Derived.Test.YtfkbkfaiplhehaaEvAw
import Derived.Test.YtfkbkfaiplhehaaEvBr
import Derived.Test.YtfkbkfaiplhehaaEvDf
namespace Go.Proofs.Ytfkbkfaiplhehaa.Ev
open Go.RowKit
open Ytfkbkfaiplhehaa.Pk (numL num_pos num_len10 sgnN rdN rd_num unsN uns_sgn)
set_option linter.unusedVariables false

theorem num_inj {n m : Nat} {r s : List UInt8} (hn : n < 18446744073709551616) (hm : m < 18446744073709551616) (h : numL n ++ r = numL m ++ s) : n = m ∧ r = s := by
  have h1 := rd_num n r hn
  have h2 := rd_num m s hm
  rw [h, h2] at h1
  injection h1 with h3 _
  subst h3
  exact ⟨rfl, List.append_cancel_left h⟩
theorem nums_inj : ∀ {a b : List Nat} {r s : List UInt8}, a.length = b.length → (∀ n ∈ a, n < 18446744073709551616) → (∀ n ∈ b, n < 18446744073709551616) → numsL a ++ r = numsL b ++ s → a = b ∧ r = s
  | [], [], r, s, _, _, _, h => ⟨rfl, h⟩
  | x :: a, [], _, _, h, _, _, _ => by simp at h
  | [], x :: b, _, _, h, _, _, _ => by simp at h
  | x :: a, y :: b, r, s, hl, ha, hb, h => by
    unfold numsL at h
    rw [List.flatMap_cons, List.flatMap_cons, List.append_assoc, List.append_assoc] at h
    obtain ⟨h1, h2⟩ := num_inj (ha x (by simp)) (hb y (by simp)) h
    obtain ⟨h3, h4⟩ := nums_inj (by simpa using hl) (fun n hn => ha n (by simp [hn])) (fun n hn => hb n (by simp [hn])) h2
    rw [h1, h3]
    exact ⟨rfl, h4⟩
theorem sgn_inj {p q : Int} (h : sgnN p = sgnN q) : p = q := by rw [← uns_sgn p, h, uns_sgn]
theorem evl_inj {x y : Ev} {r s : List UInt8} (hx : evB x = true) (hy : evB y = true) (h : evL x ++ r = evL y ++ s) : x = y ∧ r = s := by
  obtain ⟨⟨f1, f2, f3, f4, f5, f6, f7, f8⟩, b1, c1, d1⟩ := ev_nat hx
  obtain ⟨⟨g1, g2, g3, g4, g5, g6, g7, g8⟩, b2, c2, d2⟩ := ev_nat hy
  unfold evL at h
  rw [List.append_assoc, List.append_assoc, List.append_assoc, List.append_assoc] at h
  obtain ⟨h1, h2⟩ := nums_inj (by simp) (by intro n hn; simp at hn; omega) (by intro n hn; simp at hn; omega) h
  obtain ⟨h3, h4⟩ := num_inj (sgn_bd c1 d1) (sgn_bd c2 d2) h2
  obtain ⟨h5, h6⟩ := nums_inj (by simp) (by intro n hn; simp at hn; omega) (by intro n hn; simp at hn; omega) h4
  have h7 := sgn_inj h3
  simp only [List.cons.injEq, and_true] at h1 h5
  exact ⟨ext_ev (ext_ky (by omega) (by omega) (by omega) (by omega)) (by omega) (by omega) h7 (by omega) (by omega), h6⟩
theorem evs_inj : ∀ {a b : List Ev} {r s : List UInt8}, a.length = b.length → a.all evB = true → b.all evB = true → a.flatMap evL ++ r = b.flatMap evL ++ s → a = b ∧ r = s
  | [], [], r, s, _, _, _, h => ⟨rfl, h⟩
  | x :: a, [], _, _, h, _, _, _ => by simp at h
  | [], x :: b, _, _, h, _, _, _ => by simp at h
  | x :: a, y :: b, r, s, hl, ha, hb, h => by
    simp only [List.all_cons, Bool.and_eq_true] at ha hb
    rw [List.flatMap_cons, List.flatMap_cons, List.append_assoc, List.append_assoc] at h
    obtain ⟨h1, h2⟩ := evl_inj ha.1 hb.1 h
    obtain ⟨h3, h4⟩ := evs_inj (by simpa using hl) ha.2 hb.2 h2
    rw [h1, h3]
    exact ⟨rfl, h4⟩
theorem bytes_inj {a b : List Ev} (ha : a.all evB = true) (hb : b.all evB = true) (la : a.length ≤ 64) (lb : b.length ≤ 64) (h : evsL a = evsL b) : a = b := by
  unfold evsL at h
  obtain ⟨h1, h2⟩ := num_inj (by omega) (by omega) h
  exact (evs_inj (r := []) (s := []) h1 ha hb (by simpa using h2)).1
theorem str_ne {z y : ByteArray} (h : z ≠ y) : (z.toList == y.toList) = false := by
  rw [beq_eq_false_iff_ne, ByteArray.toList_eq, ByteArray.toList_eq]
  intro e
  exact h (ByteArray.ext (Array.toList_inj.1 e))

set_option maxRecDepth 100000 in
set_option maxHeartbeats 4000000 in
theorem bytes_w (u v : Value) (a b : List Ev) (w : World) (hu : Evs w u a) (hv : Evs w v b) : Calls Try.prog 7 #[u, v] w fun e w' => e = .returned (.bool true) ∧ Below w.heap.size w w' := by
  have HU := hid hu
  have HV := hid hv
  obtain ⟨ao, L, cap, rfl, hL, hc, hm, ht⟩ := hu
  obtain ⟨ao2, L2, cap2, rfl, hL2, hc2, hm2, ht2⟩ := hv
  have HW := hid (awake_c w)
  have HB1 := hid (fun W (g : Below w.heap.size w W) => bytes_c _ a W (HU.out.below g))
  have HB2 := hid (fun W (g : Below w.heap.size w W) => bytes_c _ b W (HV.out.below g))
  have HO2 := hid (fun W (g : Below w.heap.size w W) => rordered_c _ a W (HU.out.below g))
  have HR := hid (fun (h1 : a.all evB = true) (h2 : a.length ≤ 64) W (g : Below w.heap.size w W) => rbytes_c _ a W (HU.out.below g) h1 h2)
  have HSm := hid (fun W (g : Below w.heap.size w W) => rsame_c _ _ a b W (HU.out.below g) (HV.out.below g))
  clear hL hL2 ht ht2
  by_cases h100 : 100 < L
  · have d1 : decide ((100 : Int) < (L : Int)) = true := by simp; omega
    have d2 : (100 : Int) < (L : Int) := by omega
    go_enter Try.func7, Try.ntmps7
    go_wp2_with (go_at_call 9; ((with_reducible refine HW.out.mono ?_); rintro e w1 ⟨rfl, g1⟩))
    go_ret
    exact ⟨rfl, g1⟩
  have d1 : decide ((100 : Int) < (L : Int)) = false := by simp; omega
  have d2 : ¬ (100 : Int) < (L : Int) := by omega
  by_cases h200 : 100 < L2
  · have d3 : decide ((100 : Int) < (L2 : Int)) = true := by simp; omega
    have d4 : (100 : Int) < (L2 : Int) := by omega
    go_enter Try.func7, Try.ntmps7
    go_wp2_with (go_at_call 9; ((with_reducible refine HW.out.mono ?_); rintro e w1 ⟨rfl, g1⟩))
    go_ret
    exact ⟨rfl, g1⟩
  have d3 : decide ((100 : Int) < (L2 : Int)) = false := by simp; omega
  have d4 : ¬ (100 : Int) < (L2 : Int) := by omega
  clear h100 h200
  cases hA : ordB a with
  | false =>
    rw [hA] at HO2 HB1
    simp only [Bool.false_eq_true, if_false] at HB1
    obtain ⟨X, hX⟩ : ∃ X, Hid ((if ordB b = true then Value.tuple #[.string ⟨(evsL b).toArray⟩, .int .i64 0] else .tuple #[.string ⟨#[]⟩, .int .i64 1]) = X) := ⟨_, hid rfl⟩
    have hXX : ∃ s i, X = .tuple #[.string s, .int .i64 i] := by rw [← hX.out]; split <;> exact ⟨_, _, rfl⟩
    rw [hX.out] at HB2
    obtain ⟨s, i, rfl⟩ := hXX
    clear hA
    go_enter Try.func7, Try.ntmps7
    go_wp2_with (first
      | (go_at_call 9; ((with_reducible refine HW.out.mono ?_); rintro e w1 ⟨rfl, g1⟩))
      | (go_at_call 28; ((with_reducible refine (HB1.out _ g1).mono ?_); rintro e w2 ⟨rfl, g2⟩; have G2 := hid (bt g1 g2)))
      | (go_at_call 28; ((with_reducible refine (HB2.out _ G2.out).mono ?_); rintro e w3 ⟨rfl, g3⟩; have G3 := hid (bt G2.out g3)))
      | (go_at_call 17; ((with_reducible refine (HO2.out _ G3.out).mono ?_); rintro e w4 ⟨rfl, g4⟩; have G4 := hid (bt G3.out g4.below))))
    go_ret
    exact ⟨rfl, G4.out⟩
  | true =>
    have pa := ord_parts hA
    rw [hA] at HO2 HB1
    simp only [if_true] at HB1
    have HR := hid (HR.out pa.1 pa.2.2)
    obtain ⟨S, hS⟩ : ∃ S : ByteArray, Hid (⟨(evsL a).toArray⟩ = S) := ⟨_, hid rfl⟩
    rw [hS.out] at HB1 HR
    cases hB : ordB b with
    | false =>
      rw [hB] at HB2
      simp only [Bool.false_eq_true, if_false] at HB2
      clear hA hB pa
      go_enter Try.func7, Try.ntmps7
      go_wp2_with (first
        | (go_at_call 9; ((with_reducible refine HW.out.mono ?_); rintro e w1 ⟨rfl, g1⟩))
        | (go_at_call 28; ((with_reducible refine (HB1.out _ g1).mono ?_); rintro e w2 ⟨rfl, g2⟩; have G2 := hid (bt g1 g2)))
        | (go_at_call 28; ((with_reducible refine (HB2.out _ G2.out).mono ?_); rintro e w3 ⟨rfl, g3⟩; have G3 := hid (bt G2.out g3)))
        | (go_at_call 17; ((with_reducible refine (HO2.out _ G3.out).mono ?_); rintro e w4 ⟨rfl, g4⟩; have G4 := hid (bt G3.out g4.below)))
        | (go_at_call 29; ((with_reducible refine (HR.out _ G4.out).mono ?_); rintro e w5 ⟨rfl, g5⟩; have G5 := hid (bt G4.out g5))))
      go_ret
      exact ⟨rfl, G5.out⟩
    | true =>
      have pb := ord_parts hB
      rw [hB] at HB2
      simp only [if_true] at HB2
      by_cases hab : a = b
      · subst hab
        rw [hS.out] at HB2
        rw [decide_eq_true rfl] at HSm
        clear hA hB pa pb
        go_enter Try.func7, Try.ntmps7
        go_wp2_with (first
          | (go_at_call 9; ((with_reducible refine HW.out.mono ?_); rintro e w1 ⟨rfl, g1⟩))
          | (go_at_call 28; ((with_reducible refine (HB1.out _ g1).mono ?_); rintro e w2 ⟨rfl, g2⟩; have G2 := hid (bt g1 g2)))
          | (go_at_call 28; ((with_reducible refine (HB2.out _ G2.out).mono ?_); rintro e w3 ⟨rfl, g3⟩; have G3 := hid (bt G2.out g3)))
          | (go_at_call 17; ((with_reducible refine (HO2.out _ G3.out).mono ?_); rintro e w4 ⟨rfl, g4⟩; have G4 := hid (bt G3.out g4.below)))
          | (go_at_call 29; ((with_reducible refine (HR.out _ G4.out).mono ?_); rintro e w5 ⟨rfl, g5⟩; have G5 := hid (bt G4.out g5)))
          | (go_at_call 15; ((with_reducible refine (HSm.out _ G5.out).mono ?_); rintro e w6 ⟨rfl, g6⟩; have G6 := hid (bt G5.out g6.below))))
        go_ret
        exact ⟨rfl, G6.out⟩
      · obtain ⟨T, hT⟩ : ∃ T : ByteArray, Hid (⟨(evsL b).toArray⟩ = T) := ⟨_, hid rfl⟩
        have hST : S ≠ T := by
          intro e
          apply hab
          refine bytes_inj pa.1 pb.1 pa.2.2 pb.2.2 ?_
          have h2 := (hS.out.trans e).trans hT.out.symm
          injection h2 with h2
          simpa using h2
        have hs1 := str_ne hST
        rw [hT.out] at HB2
        rw [decide_eq_false hab] at HSm
        clear hA hB pa pb hab hST
        go_enter Try.func7, Try.ntmps7
        go_wp2_with (first
          | (go_at_call 9; ((with_reducible refine HW.out.mono ?_); rintro e w1 ⟨rfl, g1⟩))
          | (go_at_call 28; ((with_reducible refine (HB1.out _ g1).mono ?_); rintro e w2 ⟨rfl, g2⟩; have G2 := hid (bt g1 g2)))
          | (go_at_call 28; ((with_reducible refine (HB2.out _ G2.out).mono ?_); rintro e w3 ⟨rfl, g3⟩; have G3 := hid (bt G2.out g3)))
          | (go_at_call 17; ((with_reducible refine (HO2.out _ G3.out).mono ?_); rintro e w4 ⟨rfl, g4⟩; have G4 := hid (bt G3.out g4.below)))
          | (go_at_call 29; ((with_reducible refine (HR.out _ G4.out).mono ?_); rintro e w5 ⟨rfl, g5⟩; have G5 := hid (bt G4.out g5)))
          | (go_at_call 15; ((with_reducible refine (HSm.out _ G5.out).mono ?_); rintro e w6 ⟨rfl, g6⟩; have G6 := hid (bt G5.out g6.below))))
        go_ret
        exact ⟨rfl, G6.out⟩

end Go.Proofs.Ytfkbkfaiplhehaa.Ev
