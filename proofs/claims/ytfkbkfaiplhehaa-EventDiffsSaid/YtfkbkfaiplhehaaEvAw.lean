/- Pages that only grow, the chapter's example (layer 11, event). -/
import Derived.Test.YtfkbkfaiplhehaaEvAdd
namespace Go.Proofs.Ytfkbkfaiplhehaa.Ev
open Go.RowKit Rg
set_option linter.unusedVariables false

/-- what a page's list is at all times. -/
def pageI (fr : Int) (l : List Ev) : Prop := l.all evB = true ∧ up (keys l) ∧ l.length ≤ 64 ∧ ∀ x ∈ l, x.key.f = fr ∧ x.key.o < (ordI l x : Int)
theorem page_nil (fr : Int) : pageI fr [] := ⟨rfl, List.Pairwise.nil, by simp, by simp⟩
theorem page_ord {fr : Int} {l : List Ev} (h : pageI fr l) : ordB l = true := by
  unfold ordB
  simp [h.1, h.2.1, h.2.2.1]
theorem ord_perm {a b : List Ev} (h : a.Perm b) (e : Ev) : ordI a e = ordI b e := (h.map Ev.key).countP_eq _
theorem ord_cons (x : Ev) (l : List Ev) (e : Ev) : ordI (x :: l) e = ordI l e + (if sameB e.key.e e.key.k x.key = true then 1 else 0) := by
  unfold ordI
  rw [keys, List.map_cons, List.countP_cons]
theorem add_inv {fr : Int} {l : List Ev} (h : pageI fr l) (e : Ev) : pageI fr (addR fr l e).1 := by
  unfold addR
  by_cases hE : evB (under fr 0 e) = true
  case neg => rw [if_neg hE]; exact h
  rw [if_pos hE]
  by_cases hF : 64 ≤ l.length ∨ 15 < ordI l e
  case pos => rw [if_pos hF]; exact h
  rw [if_neg hF]
  obtain ⟨h1, h2, h3, h4⟩ := h
  have hF1 : ¬ 64 ≤ l.length := fun hh => hF (.inl hh)
  have hF2 : ¬ 15 < ordI l e := fun hh => hF (.inr hh)
  generalize hx : under fr (ordI l e) e = x
  have xe : x.key.e = e.key.e := by rw [← hx]; rfl
  have xk : x.key.k = e.key.k := by rw [← hx]; rfl
  have xo : x.key.o = (ordI l e : Int) := by rw [← hx]; rfl
  have xf : x.key.f = fr := by rw [← hx]; rfl
  have hox : ordI l x = ordI l e := by unfold ordI; rw [xe, xk]
  have hEx : evB x = true := by
    rw [← hx]
    unfold evB keyB inB under at hE ⊢
    simp only [Bool.and_eq_true, decide_eq_true_eq] at hE ⊢
    omega
  have hp := put_perm x l
  have hnew : x.key ∉ keys l := by
    intro hm
    obtain ⟨y, hy, hk⟩ := List.mem_map.1 hm
    have := (h4 y hy).2
    have h5 : ordI l y = ordI l x := by unfold ordI; rw [hk]
    rw [h5, hox, hk, xo] at this
    omega
  have hnd : (keys (putL x l)).Nodup := by
    refine ((hp.map Ev.key).nodup_iff).2 ?_
    rw [List.map_cons, List.nodup_cons]
    exact ⟨hnew, up_nodup h2⟩
  refine ⟨?_, wk_up (put_wk x (up_wk h2)) hnd, ?_, ?_⟩
  · show (putL x l).all evB = true
    rw [all_perm hp, List.all_cons, hEx, h1]; rfl
  · show (putL x l).length ≤ 64
    rw [put_len]; omega
  · intro y hy
    have hy : y ∈ putL x l := hy
    have hy2 := hp.mem_iff.1 hy
    rw [show ordI ((putL x l, x.key, (0 : Int)).1) y = ordI (putL x l) y from rfl, ord_perm hp, ord_cons]
    rcases List.mem_cons.1 hy2 with rfl | hy2
    · refine ⟨xf, ?_⟩
      have : sameB y.key.e y.key.k y.key = true := by simp [sameB]
      rw [this, xo, hox]
      simp only [if_true]
      omega
    · refine ⟨(h4 y hy2).1, ?_⟩
      have := (h4 y hy2).2
      split <;> omega

theorem At.keeps {w w' : World} {b k : Nat} {ao : Option Addr} {cs : Array Value} {T : TypeId} (h : At w k cs T) (g : Keeps (Foot b ao) w w') (hb : k ≠ b) (ha : ∀ a, ao = some a → a.block ≠ k) : At w' k cs T := by
  have hl := h.lt
  unfold At at h ⊢
  rw [g.block k hl (by
    rintro (e | ⟨a, e, hk⟩)
    · exact hb e
    · exact ha a e hk.symm)]
  exact h
theorem evs_keeps {w w' : World} {b : Nat} {ao : Option Addr} {v : Value} {l : List Ev} (h : Evs w v l) (g : Keeps (Foot b ao) w w') (hv : ∀ k, v.ownBlock = some k → k ≠ b ∧ ∀ a, ao = some a → a.block ≠ k) : Evs w' v l := by
  obtain ⟨a, L, cap, rfl, h1, h2, h3, h4⟩ := h
  refine ⟨a, L, cap, rfl, h1, h2, h3, fun hp => ?_⟩
  obtain ⟨c, o, rfl, hc, hr⟩ := h4 hp
  obtain ⟨k1, k2⟩ := hv c rfl
  have hblk := g.block c hc (by
    rintro (e | ⟨a, e, hk⟩)
    · exact k1 e
    · exact k2 a e hk.symm)
  refine ⟨c, o, rfl, Nat.lt_of_lt_of_le hc g.size, fun j hj i u hu => ?_⟩
  have := hr j hj i u hu
  rw [← this]
  unfold World.cell?
  rw [hblk]

def ex1 : Ev := ⟨⟨0, 1, 1, 0⟩, 0, 0, 0, 0, 0⟩
theorem ex_one : (addR 7 [] ex1).2 = (⟨7, 1, 1, 0⟩, 0) := by decide +kernel
theorem ex_two : (addR 7 (addR 7 [] ex1).1 ex1).2 = (⟨7, 1, 1, 1⟩, 0) := by decide +kernel

set_option maxRecDepth 100000 in
set_option maxHeartbeats 1000000 in
theorem awake_c (w : World) : Calls Try.prog 9 #[] w fun e w' => e = .returned (.bool true) ∧ Below w.heap.size w w' := by
  have hI0 := hid (page_nil 7)
  have hI1 := hid (add_inv hI0.out ex1)
  obtain ⟨l1, hl1⟩ : ∃ l1, Hid ((addR 7 [] ex1).1 = l1) := ⟨_, hid rfl⟩
  have h1 := ex_one
  have h2 := ex_two
  rw [hl1.out] at hI1 h2
  have hk1 : kv (addR 7 [] ex1).2.1 = kv ⟨7, 1, 1, 0⟩ := by rw [h1]
  have he1 : (addR 7 [] ex1).2.2 = 0 := by rw [h1]
  have hk2 : kv (addR 7 l1 ex1).2.1 = kv ⟨7, 1, 1, 1⟩ := by rw [h2]
  have he2 : (addR 7 l1 ex1).2.2 = 0 := by rw [h2]
  have HA1 := hid (fun (W : World) (n₀ b : Nat) (hP : Pg W n₀ b 7 none 0 []) (hn : n₀ ≤ W.heap.size) => add_c ex1 W hP hn hI0.out.2.1 hI0.out.2.2.1)
  have HA2 := hid (fun (W : World) (n₀ b : Nat) (ao : Option Addr) (cap : Nat) (hP : Pg W n₀ b 7 ao cap l1) (hn : n₀ ≤ W.heap.size) => add_c ex1 W hP hn hI1.out.2.1 hI1.out.2.2.1)
  rw [hk1, he1, hl1.out] at HA1
  rw [hk2, he2] at HA2
  have HO := hid (open_c 7 w.heap.size w (Nat.le_refl _) (by decide))
  clear h1 h2 hk1 he1 hk2 he2
  go_enter Try.func9, Try.ntmps9
  go_upto_region 3 with (go_at_call 24; ((with_reducible refine HO.out.mono ?_); rintro e w1 ⟨rfl, hP1, g1⟩; have HP1 := hid hP1; have HG1 := hid g1; clear hP1 g1))
  have HE := hid (At.new w1 #[.int .i64 0, .int .i64 1, .int .i64 1, .int .i64 0, .int .i64 0, .int .i64 0, .int .i64 0, .int .i64 0, .int .i64 0] 31)
  have HP2 := hid (HP1.out.alloc (.cells #[.int .i64 0, .int .i64 1, .int .i64 1, .int .i64 0, .int .i64 0, .int .i64 0, .int .i64 0, .int .i64 0, .int .i64 0] 31))
  have HG2 := hid (bal HG1.out (.cells #[.int .i64 0, .int .i64 1, .int .i64 1, .int .i64 0, .int .i64 0, .int .i64 0, .int .i64 0, .int .i64 0, .int .i64 0] 31))
  have hxb : w.heap.size < w1.heap.size := HP1.out.lt
  obtain ⟨X, hX⟩ : ∃ X, Hid (w1.heap.size = X) := ⟨_, hid rfl⟩
  rw [hX.out] at HE hxb ⊢
  generalize World.alloc w1 _ = w2 at HE HP2 HG2 ⊢
  obtain ⟨x0, x1, x2, x3, x4, x5, x6, x7, x8⟩ := HE.out.nine
  go_upto_region 4 with (go_at_call 25; (refine (HA1.out _ _ _ HP2.out HG2.out.size).mono ?_); rintro e w3 ⟨rfl, ao, cap, hP3, hn3, hk3⟩; have HP3 := hid hP3; have HK3 := hid hk3; have HN3 := hid hn3; clear hP3 hn3 hk3)
  have hXe : X < w2.heap.size := HE.out.lt
  have HE4 := hid ((HE.out.keeps HK3.out (by omega) (by simp)).more (.cells #[.int .i64 7, .int .i64 1, .int .i64 1, .int .i64 0] 24))
  have HA := hid (At.new w3 #[.int .i64 7, .int .i64 1, .int .i64 1, .int .i64 0] 24)
  have HP4 := hid (HP3.out.alloc (.cells #[.int .i64 7, .int .i64 1, .int .i64 1, .int .i64 0] 24))
  have HG3 := hid ((HG2.out).trans (HK3.out.below HG2.out.size HP2.out.footGe))
  have HG4 := hid (bal HG3.out (.cells #[.int .i64 7, .int .i64 1, .int .i64 1, .int .i64 0] 24))
  have hbl := HP3.out.lt
  have hfl := hid HP3.out.footLt
  obtain ⟨Y, hY⟩ : ∃ Y, Hid (w3.heap.size = Y) := ⟨_, hid rfl⟩
  rw [hY.out] at HA hbl hfl ⊢
  clear x0 x1 x2 x3 x4 x5 x6 x7 x8
  generalize World.alloc w3 _ = w4 at HE4 HA HP4 HG4 ⊢
  obtain ⟨x0, x1, x2, x3, x4, x5, x6, x7, x8⟩ := HE4.out.nine
  go_upto_region 5 with (go_at_call 25; (refine (HA2.out _ _ _ _ _ HP4.out HG4.out.size).mono ?_); rintro e w5 ⟨rfl, ao5, cap5, hP5, hn5, hk5⟩; have HK5 := hid hk5; have HP5 := hid hP5; clear hP5 hn5 hk5)
  have HA5 := hid (HA.out.keeps HK5.out (by omega) (fun a ha e => by have := hfl.out a.block (.inr ⟨a, ha, rfl⟩); omega))
  have hY5 : Y < w5.heap.size := HA5.out.lt
  obtain ⟨a0, a1, a2, a3⟩ := (HA5.out.more (.cells #[.int .i64 7, .int .i64 1, .int .i64 1, .int .i64 1] 24)).four
  have HG5 := hid ((HG4.out).trans (HK5.out.below HG4.out.size HP4.out.footGe))
  have HG6 := hid (bal HG5.out (.cells #[.int .i64 7, .int .i64 1, .int .i64 1, .int .i64 1] 24))
  obtain ⟨b0, b1, b2, b3⟩ := (At.new w5 #[.int .i64 7, .int .i64 1, .int .i64 1, .int .i64 1] 24).four
  clear x0 x1 x2 x3 x4 x5 x6 x7 x8
  go_wp2_with fail
  go_ret
  exact ⟨rfl, HG6.out⟩

end Go.Proofs.Ytfkbkfaiplhehaa.Ev
