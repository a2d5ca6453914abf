/- What Take of layer 14 (feed) returns, and what it leaves of the feed. -/
import Derived.Test.YtkeedegbfpenjaaFdPut
namespace Go.Proofs.Ytkeedegbfpenjaa.Fd
open Go.RowKit Go.Proofs.Ytkeedegbfpenjaa.Rg
set_option linter.unusedVariables false

theorem take_nil (f : Int) (w : World) :
    Calls Try.prog 8 #[.pointer none, .int .i64 f] w fun e w' => e = .returned (.tuple #[.int .u8 0, .bool false]) ∧ w = w' := by
  go_enter Try.func8, Try.ntmps8
  go_wp2_with fail
  go_ret2
  exact ⟨rfl, rfl⟩

/-- what is used for a frame, however far behind: the window's Put. -/
theorem wput_c (f x : Int) (n₀ b cap : Nat) (wf : Int) (ao : Option Addr) (l : List (Int × Int)) (w : World) (h : Ru.Win w n₀ 56 59 b 64 wf ao cap l) (hg : Ru.Good 64 wf l) (hn : n₀ ≤ w.heap.size) (h1 : wf ≤ f) (h2 : f ≤ 1073741824) :
    Calls Try.prog 18 #[.pointer (some ⟨b, 0, none⟩), .int .i64 f, .int .u8 x] w fun e w' => ∃ r, e = .returned (.int .i64 r) ∧
      ∃ ao' cap' l', Ru.Win w' n₀ 56 59 b 64 wf ao' cap' l' ∧ Ru.Good 64 wf l' ∧ (∀ g : Int, look l' g = if g = f ∧ f - wf < 64 then some x else look l g) ∧ Near ao ao' w.heap.size ∧ Keeps (Foot b ao) w w' := by
  by_cases hf : f - wf < 64
  · refine (Ru.put_c f x n₀ b 64 cap wf ao l w h hg.up (Nat.le_trans hg.len (by decide)) hn hg.ge h1 h2 hf).mono ?_
    rintro e w' ⟨rfl, ao', cap', hw, hn', hk⟩
    have hg' := hg.put (x := x) h1 hf h2
    refine ⟨_, rfl, ao', cap', _, hw, hg', fun g => ?_, hn', hk⟩
    rw [look_put hg.up hg'.up]
    by_cases e : g = f
    · rw [if_pos e, if_pos ⟨e, hf⟩]
    · rw [if_neg e, if_neg (fun h => e h.1)]
  · refine (Ru.put_full f x n₀ b 64 cap wf ao l w h hg.ge h1 (by omega) (.inl (by omega))).mono ?_
    rintro e w' ⟨rfl, q, rfl⟩
    refine ⟨_, rfl, ao, cap, l, h.drewN q, hg, fun g => ?_, Near.refl _ _, Keeps.drewN _ _ _⟩
    rw [if_neg (fun h => hf h.2)]

theorem takeM_no {m : Fd} {f : Int} (h : ¬ isTk m f) : takeM m f = m := by unfold takeM; rw [if_neg (fun e => h e.1)]

theorem take_no (f : Int) (n₀ b : Nat) (F : Nat → Prop) (m : Fd) (w : World) (h : Fed w n₀ b F m) (hf : ¬ isTk m f) :
    Calls Try.prog 8 #[.pointer (some ⟨b, 0, none⟩), .int .i64 f] w fun e w' => e = .returned (.tuple #[.int .u8 (takeV m f), .bool (takeB m f && decide (isTk m f))]) ∧ Left n₀ b F (takeM m f) w w' := by
  rw [takeM_no hf]
  have e1 : takeV m f = 0 := by unfold takeV; rw [if_neg hf]
  have e2 : decide (isTk m f) = false := by simpa using hf
  rw [e1, e2, Bool.and_false]
  have HL := hid (Left.same h (Below.refl _ _))
  obtain ⟨br, bw, ao, cap, aw, capw, l, hp, _, _, ho, rfl⟩ := h
  obtain ⟨c0, _, _, _⟩ := hp.cells
  clear hp ho e1 e2
  by_cases h1 : f < (m.first : Int)
  · have d1 : decide (f < (m.first : Int)) = true := by simpa using h1
    clear hf
    go_enter Try.func8, Try.ntmps8
    go_wp2_with fail
    go_ret2
    exact ⟨rfl, HL.out⟩
  · have d1 : decide (f < (m.first : Int)) = false := by simpa using h1
    have d2 : decide (1073741824 < f) = true := by unfold isTk at hf; simp; omega
    clear hf
    go_enter Try.func8, Try.ntmps8
    go_wp2_with fail
    go_ret2
    exact ⟨rfl, HL.out⟩

theorem wF_at {m : Fd} {f : Int} (h : isTk m f) : wF m = (m.first : Int) := by
  unfold isTk at h
  unfold wF
  rw [if_pos (by omega)]
theorem tk_is (m : Fd) (f : Int) : tk m f = if knB m f = true then knV m f else gs m := by
  unfold tk knB knV
  cases kn m f <;> rfl

/-- what the parts are behind a taking. -/
theorem take_left {w w1 : World} {n₀ b br bw : Nat} {ao : Option Addr} {cap : Nat} {aw : Option Addr} {capw : Nat} {m : Fd} {l : List (Int × Int)} {f : Int} (hp : Parts w n₀ b br bw ao cap aw capw m.first (kept m) (gs m) (wF m) l) (ho : Ok m) (hl : ∀ k : Nat, m.first ≤ k → m.us k = look l k) (hf : isTk m f)
    {aw' : Option Addr} {capw' : Nat} {l' : List (Int × Int)} (q : Nat) (hw : Ru.Win w1 n₀ 56 59 bw 64 (wF m) aw' capw' l') (hg : Ru.Good 64 (wF m) l') (hk : ∀ g : Int, look l' g = if g = f ∧ f - wF m < 64 then some (tk m f) else look l g) (hn : Near aw aw' w.heap.size) (hkp : Keeps (Foot bw aw) (w.drewN q) w1) :
    Left n₀ b (FFoot b br bw ao aw) (takeM m f) w w1 := by
  obtain ⟨hp1, hk1⟩ := (hp.drewN q).setW hw hkp
  have hk2 : Keeps (FFoot b br bw ao aw) w w1 := (Keeps.drewN _ w q).trans hk1 (fun _ _ e => e)
  have e1 : (takeM m f).first = m.first := take_first m f
  have e2 : (takeM m f).L = m.L := take_L m f
  have e3 : kept (takeM m f) = kept m := by unfold kept; rw [e1, e2]
  have e4 : gs (takeM m f) = gs m := by unfold gs; rw [e2]
  have e5 : wF (takeM m f) = wF m := by unfold wF; rw [e1]
  refine Left.mk' (m' := takeM m f) (cap := cap) (capw := capw') ?_ (by rw [e5]; exact hg) ?_ (ok_take ho f) (Near.refl _ _) hn hk2
  · rw [e1, e3, e4, e5]; exact hp1
  · intro k hk0
    rw [e1] at hk0
    rw [hk]
    have hwf := wF_at hf
    unfold takeM
    by_cases hc : f - (m.first : Int) < 64
    · rw [if_pos ⟨hf, hc⟩]
      dsimp only
      by_cases e : (k : Int) = f
      · rw [if_pos e, if_pos ⟨e, by rw [hwf]; exact hc⟩]
      · rw [if_neg e, if_neg (fun h => e h.1)]
        exact hl k hk0
    · rw [if_neg (fun h => hc h.2), if_neg (fun h => hc (by rw [← hwf]; exact h.2))]
      exact hl k hk0

theorem take_in (f : Int) (n₀ b : Nat) (F : Nat → Prop) (m : Fd) (w : World) (h : Fed w n₀ b F m) (hf : isTk m f) :
    Calls Try.prog 8 #[.pointer (some ⟨b, 0, none⟩), .int .i64 f] w fun e w' => e = .returned (.tuple #[.int .u8 (tk m f), .bool (knB m f)]) ∧ Left n₀ b F (takeM m f) w w' := by
  have hf2 : (m.first : Int) ≤ f ∧ f ≤ 1073741824 := hf
  have HK := hid (known_c f n₀ b F m w h (by omega))
  obtain ⟨br, bw, ao, cap, aw, capw, l, hp, hg, hl, ho, rfl⟩ := h
  obtain ⟨c0, c1, c2, c3⟩ := hp.cells
  have hn : n₀ ≤ w.heap.size := by have := hp.ge; have := hp.lt; omega
  have HW := hid (fun q x => wput_c f x n₀ bw capw (wF m) aw l (w.drewN q) (hp.drewN q).win hg hn (by rw [wF_at hf]; exact hf2.1) hf2.2)
  have HT := hid (fun (w1 : World) (aw' : Option Addr) (capw' : Nat) (l' : List (Int × Int)) (q : Nat) => take_left (w1 := w1) (aw' := aw') (capw' := capw') (l' := l') hp ho hl hf q)
  have d1 : decide (f < (m.first : Int)) = false := by simp; omega
  have d2 : decide (1073741824 < f) = false := by simp; omega
  have ht := tk_is m f
  clear hp hg hl ho hn hf2 hf
  generalize hx : tk m f = x at *
  cases hb : knB m f with
  | true =>
    rw [hb, if_pos rfl] at ht
    have HB := hid hb
    have HX := hid ht.symm
    clear hb ht hx
    go_enter Try.func8, Try.ntmps8
    go_wp2_with (first
      | (go_at_call 11; ((with_reducible refine HK.out.mono ?_); rintro e w' ⟨rfl, q, rfl⟩; rw [HB.out, HX.out]))
      | (go_at_call 18; ((with_reducible refine (HW.out _ _).mono ?_); rintro e w1 ⟨r, rfl, aw', capw', l', hw1, hg1, hk1, hn1, hkp1⟩)))
    go_ret2
    exact ⟨rfl, HT.out _ _ _ _ _ hw1 hg1 hk1 hn1 hkp1⟩
  | false =>
    rw [hb, if_neg (by decide)] at ht
    have HB := hid hb
    rw [← ht] at c2
    clear hb hx ht
    go_enter Try.func8, Try.ntmps8
    go_wp2_with (first
      | (go_at_call 11; ((with_reducible refine HK.out.mono ?_); rintro e w' ⟨rfl, q, rfl⟩; rw [HB.out]))
      | (go_at_call 18; ((with_reducible refine (HW.out _ _).mono ?_); rintro e w1 ⟨r, rfl, aw', capw', l', hw1, hg1, hk1, hn1, hkp1⟩)))
    go_ret2
    exact ⟨rfl, HT.out _ _ _ _ _ hw1 hg1 hk1 hn1 hkp1⟩

theorem take_c (f : Int) (n₀ b : Nat) (F : Nat → Prop) (m : Fd) (w : World) (h : Fed w n₀ b F m) :
    Calls Try.prog 8 #[.pointer (some ⟨b, 0, none⟩), .int .i64 f] w fun e w' => e = .returned (.tuple #[.int .u8 (takeV m f), .bool (takeB m f && decide (isTk m f))]) ∧ Left n₀ b F (takeM m f) w w' := by
  by_cases hf : isTk m f
  · have e1 : takeV m f = tk m f := by unfold takeV; rw [if_pos hf]
    have e2 : decide (isTk m f) = true := by simpa using hf
    rw [e1, e2, Bool.and_true]
    exact take_in f n₀ b F m w h hf
  · exact take_no f n₀ b F m w h hf

end Go.Proofs.Ytkeedegbfpenjaa.Fd
