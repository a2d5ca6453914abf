/- What Put and Take of layer 14 (feed) return, and what they leave of the feed. -/
/- What Take of layer 14 (feed) returns, and what it leaves of the feed. -/
import Derived.Test.YtfclnhmijjlhdaaGreatDoorJ18
namespace Go.Proofs.YtfclnhmijjlhdaaGreatDoor.Fd
open Go.RowKit Go.Proofs.YtfclnhmijjlhdaaGreatDoor.Rg
set_option linter.unusedVariables false
set_option maxRecDepth 100000

theorem put_nil (f a : Int) (w : World) :
 Calls Tryz.prog 34 #[.pointer none, .int .i64 f, .int .u8 a] w fun e w' => e = .returned (.int .i64 2) ∧ w = w' := by
 go_enter Tryz.func34, Tryz.ntmps34
 go_wp2_with fail
 go_ret
 exact ⟨rfl, rfl⟩

theorem kept_put {m : Fd} (h : Ok m) (a : Int) : kept { m with L := m.L ++ [a] } = kept m ++ [a] := by
 unfold kept
 exact List.drop_append_of_le_length h.le

theorem put_arg (f a : Int) (n₀ b : Nat) (F : Nat → Prop) (m : Fd) (w : World) (h : Fed w n₀ b F m) (ha : 63 < a ∨ f < 0 ∨ 1073741824 < f) :
 Calls Tryz.prog 34 #[.pointer (some ⟨b, 0, none⟩), .int .i64 f, .int .u8 a] w fun e w' => e = .returned (.int .i64 (putE m f a)) ∧ Left n₀ b F (putM m f a) w w' := by
 have e1 : putE m f a = 1 := by unfold putE; rw [if_pos ha]
 rw [putM_no (by rw [e1]; decide), e1]
 have HL := hid (Left.same h (Below.refl _ _))
 clear h e1
 by_cases h1 : 63 < a
 · have d1 : decide (63 < a) = true := by simpa using h1
   go_enter Tryz.func34, Tryz.ntmps34
   go_wp2_with fail
   go_ret
   exact ⟨rfl, HL.out⟩
 · have d1 : decide (63 < a) = false := by simpa using h1
   by_cases h2 : f < 0
   · have d2 : decide (f < 0) = true := by simpa using h2
     go_enter Tryz.func34, Tryz.ntmps34
     go_wp2_with fail
     go_ret
     exact ⟨rfl, HL.out⟩
   · have d2 : decide (f < 0) = false := by simpa using h2
     have d3 : decide (1073741824 < f) = true := by simp; omega
     clear ha
     go_enter Tryz.func34, Tryz.ntmps34
     go_wp2_with fail
     go_ret
     exact ⟨rfl, HL.out⟩

theorem put_old (f a : Int) (n₀ b : Nat) (F : Nat → Prop) (m : Fd) (w : World) (h : Fed w n₀ b F m) (h1 : ¬ 63 < a) (h2 : ¬ f < 0) (h3 : ¬ 1073741824 < f) (h4 : f < (m.L.length : Int)) :
 Calls Tryz.prog 34 #[.pointer (some ⟨b, 0, none⟩), .int .i64 f, .int .u8 a] w fun e w' => e = .returned (.int .i64 (putE m f a)) ∧ Left n₀ b F (putM m f a) w w' := by
 have e1 : putE m f a = 10 := by unfold putE; rw [if_neg (by omega), if_pos h4]
 rw [putM_no (by rw [e1]; decide), e1]
 have HL := hid (fun q => Left.same h (show Below w.heap.size w (w.drewN q) from ⟨rfl, rfl, rfl, Nat.le_refl _, fun _ _ => rfl⟩))
 have HN := hid (next_c n₀ b F m w h)
 have d1 : decide (63 < a) = false := by simpa using h1
 have d2 : decide (f < 0) = false := by simpa using h2
 have d3 : decide (1073741824 < f) = false := by simpa using h3
 have d4 : decide (f < (m.L.length : Int)) = true := by simpa using h4
 clear h e1 h1 h2 h3
 go_enter Tryz.func34, Tryz.ntmps34
 go_wp2_with (go_at_call 71; ((with_reducible refine HN.out.mono ?_); rintro e w' ⟨rfl, q, rfl⟩))
 go_ret
 exact ⟨rfl, HL.out _⟩

theorem put_order (f a : Int) (n₀ b : Nat) (F : Nat → Prop) (m : Fd) (w : World) (h : Fed w n₀ b F m) (h1 : ¬ 63 < a) (h2 : ¬ f < 0) (h3 : ¬ 1073741824 < f) (h4 : (m.L.length : Int) < f) :
 Calls Tryz.prog 34 #[.pointer (some ⟨b, 0, none⟩), .int .i64 f, .int .u8 a] w fun e w' => e = .returned (.int .i64 (putE m f a)) ∧ Left n₀ b F (putM m f a) w w' := by
 have e1 : putE m f a = 11 := by unfold putE; rw [if_neg (by omega), if_neg (by omega), if_pos h4]
 rw [putM_no (by rw [e1]; decide), e1]
 have HL := hid (fun q => Left.same h (show Below w.heap.size w (w.drewN q) from ⟨rfl, rfl, rfl, Nat.le_refl _, fun _ _ => rfl⟩))
 have HN := hid (next_c n₀ b F m w h)
 have HM := hid (fun q => next_c n₀ b F m (w.drewN q) (h.drewN q))
 have d1 : decide (63 < a) = false := by simpa using h1
 have d2 : decide (f < 0) = false := by simpa using h2
 have d3 : decide (1073741824 < f) = false := by simpa using h3
 have d4 : decide (f < (m.L.length : Int)) = false := by simp; omega
 have d5 : decide ((m.L.length : Int) < f) = true := by simpa using h4
 clear h e1 h1 h2 h3
 go_enter Tryz.func34, Tryz.ntmps34
 go_wp2_with (first
  | (go_at_call 71; ((with_reducible refine HN.out.mono ?_); rintro e w' ⟨rfl, q, rfl⟩))
  | (go_at_call 71; ((with_reducible refine (HM.out _).mono ?_); rintro e w' ⟨rfl, q2, rfl⟩)))
 go_ret
 exact ⟨rfl, HL.out _⟩

theorem put_full (f a : Int) (n₀ b : Nat) (F : Nat → Prop) (m : Fd) (w : World) (h : Fed w n₀ b F m) (h1 : ¬ 63 < a) (h2 : ¬ f < 0) (h3 : ¬ 1073741824 < f) (h4 : f = (m.L.length : Int)) (h5 : 64 ≤ f - (m.first : Int)) :
 Calls Tryz.prog 34 #[.pointer (some ⟨b, 0, none⟩), .int .i64 f, .int .u8 a] w fun e w' => e = .returned (.int .i64 (putE m f a)) ∧ Left n₀ b F (putM m f a) w w' := by
 have e1 : putE m f a = 8 := by unfold putE; rw [if_neg (by omega), if_neg (by omega), if_neg (by omega), if_pos h5]
 rw [putM_no (by rw [e1]; decide), e1]
 have HL := hid (fun q => Left.same h (show Below w.heap.size w (w.drewN q) from ⟨rfl, rfl, rfl, Nat.le_refl _, fun _ _ => rfl⟩))
 have HN := hid (next_c n₀ b F m w h)
 have HM := hid (fun q => next_c n₀ b F m (w.drewN q) (h.drewN q))
 obtain ⟨br, bw, ao, cap, aw, capw, l, hp, _, _, ho, _⟩ := h
 have hk : (kept m).length = 64 := by have := kept_len ho; have := ho.few; omega
 have HP := hid (fun q => Ru.push_full a n₀ br 64 cap ao (kept m) (w.drewN q) (hp.drewN q).ring (by decide) hk)
 obtain ⟨_, c1, _, _⟩ := hp.cells
 have d1 : decide (63 < a) = false := by simpa using h1
 have d2 : decide (f < 0) = false := by simpa using h2
 have d3 : decide (1073741824 < f) = false := by simpa using h3
 have d4 : decide (f < (m.L.length : Int)) = false := by simp; omega
 have d5 : decide ((m.L.length : Int) < f) = false := by simp; omega
 clear e1 h1 h2 h3 h4 h5 hp hk ho
 go_enter Tryz.func34, Tryz.ntmps34
 go_wp2_with (first
  | (go_at_call 71; ((with_reducible refine HN.out.mono ?_); rintro e w' ⟨rfl, q, rfl⟩))
  | (go_at_call 71; ((with_reducible refine (HM.out _).mono ?_); rintro e w' ⟨rfl, q2, rfl⟩))
  | (go_at_call 78; ((with_reducible refine (HP.out _).mono ?_); rintro e w' ⟨rfl, q3, rfl⟩)))
 go_ret
 exact ⟨rfl, HL.out _⟩

theorem put_yes (f a : Int) (n₀ b : Nat) (F : Nat → Prop) (m : Fd) (w : World) (h : Fed w n₀ b F m) (h0 : 0 ≤ a) (h1 : ¬ 63 < a) (h2 : ¬ f < 0) (h3 : ¬ 1073741824 < f) (h4 : f = (m.L.length : Int)) (h5 : ¬ 64 ≤ f - (m.first : Int)) :
 Calls Tryz.prog 34 #[.pointer (some ⟨b, 0, none⟩), .int .i64 f, .int .u8 a] w fun e w' => e = .returned (.int .i64 (putE m f a)) ∧ Left n₀ b F (putM m f a) w w' := by
 have e1 : putE m f a = 0 := by unfold putE; rw [if_neg (by omega), if_neg (by omega), if_neg (by omega), if_neg h5]
 have hok := ok_put (f := f) h.ok h0
 rw [putM_yes e1] at hok
 rw [putM_yes e1, e1]
 have HN := hid (next_c n₀ b F m w h)
 have HM := hid (fun q => next_c n₀ b F m (w.drewN q) (h.drewN q))
 obtain ⟨br, bw, ao, cap, aw, capw, l, hp, hg, hl, ho, rfl⟩ := h
 have hk : (kept m).length < 64 := by have := kept_len ho; omega
 have hn : n₀ ≤ w.heap.size := by have := hp.ge; have := hp.lt; omega
 have HP := hid (fun q => Ru.push_c a n₀ br 64 cap ao (kept m) (w.drewN q) (hp.drewN q).ring (by decide) hk hn)
 obtain ⟨_, c1, _, _⟩ := hp.cells
 have H := hid hp
 have HG := hid hg
 have HL := hid hl
 have d1 : decide (63 < a) = false := by simpa using h1
 have d2 : decide (f < 0) = false := by simpa using h2
 have d3 : decide (1073741824 < f) = false := by simpa using h3
 have d4 : decide (f < (m.L.length : Int)) = false := by simp; omega
 have d5 : decide ((m.L.length : Int) < f) = false := by simp; omega
 clear e1 h1 h2 h3 h4 h5 hp hk hn hg hl
 go_enter Tryz.func34, Tryz.ntmps34
 go_wp2_with (first
  | (go_at_call 71; ((with_reducible refine HN.out.mono ?_); rintro e w' ⟨rfl, q, rfl⟩))
  | (go_at_call 71; ((with_reducible refine (HM.out _).mono ?_); rintro e w' ⟨rfl, q2, rfl⟩))
  | (go_at_call 78; ((with_reducible refine (HP.out _).mono ?_); rintro e w1 ⟨rfl, ao', cap', hr1, hn1, hk1⟩; obtain ⟨hp1, hk2⟩ := (H.out.drewN _).setR hr1 hk1; obtain ⟨_, _, c2, _⟩ := hp1.cells; have f2 := hp1.frozen 2; have H1 := hid hp1; clear hp1)))
 go_ret
 obtain ⟨hp2, hk3⟩ := H1.out.setG a
 have hk4 : Keeps (FFoot b br bw ao aw) w (w1.setCell ⟨b, 2, none⟩ (.int .u8 a)) :=
  ((Keeps.refl (FFoot b br bw ao aw) w).drew _).trans (hk2.trans (hk3.mono (fun i _ hi => hi)) (fun i hi hf => (foot_near hn1 (Near.refl _ _) hf).resolve_right (by simp; simp at hi; omega))) (fun _ _ e => e)
 refine ⟨rfl, Left.mk' (m' := { m with L := m.L ++ [a] }) (cap := cap') (capw := capw) ?_ HG.out HL.out hok hn1 (Near.refl _ _) hk4⟩
 rw [kept_put ho, gs_put]
 exact hp2

theorem put_c (f a : Int) (n₀ b : Nat) (F : Nat → Prop) (m : Fd) (w : World) (h : Fed w n₀ b F m) (h0 : 0 ≤ a) :
 Calls Tryz.prog 34 #[.pointer (some ⟨b, 0, none⟩), .int .i64 f, .int .u8 a] w fun e w' => e = .returned (.int .i64 (putE m f a)) ∧ Left n₀ b F (putM m f a) w w' := by
 by_cases h1 : 63 < a ∨ f < 0 ∨ 1073741824 < f
 · exact put_arg f a n₀ b F m w h h1
 · have g1 : ¬ 63 < a := by omega
   have g2 : ¬ f < 0 := by omega
   have g3 : ¬ 1073741824 < f := by omega
   by_cases h2 : f < (m.L.length : Int)
   · exact put_old f a n₀ b F m w h g1 g2 g3 h2
   · by_cases h3 : (m.L.length : Int) < f
     · exact put_order f a n₀ b F m w h g1 g2 g3 h3
     · by_cases h4 : 64 ≤ f - (m.first : Int)
       · exact put_full f a n₀ b F m w h g1 g2 g3 (by omega) h4
       · exact put_yes f a n₀ b F m w h h0 g1 g2 g3 (by omega) h4

end Go.Proofs.YtfclnhmijjlhdaaGreatDoor.Fd

namespace Go.Proofs.YtfclnhmijjlhdaaGreatDoor.Fd
open Go.RowKit Go.Proofs.YtfclnhmijjlhdaaGreatDoor.Rg
set_option linter.unusedVariables false
set_option maxRecDepth 100000

theorem take_nil (f : Int) (w : World) :
 Calls Tryz.prog 88 #[.pointer none, .int .i64 f] w fun e w' => e = .returned (.tuple #[.int .u8 0, .bool false]) ∧ w = w' := by
 go_enter Tryz.func88, Tryz.ntmps88
 go_wp2_with fail
 go_ret2
 exact ⟨rfl, rfl⟩

/-- what is used for a frame, however far behind: the window's Put. -/
theorem wput_c (f x : Int) (n₀ b cap : Nat) (wf : Int) (ao : Option Addr) (l : List (Int × Int)) (w : World) (h : Ru.Win w n₀ 177 189 b 64 wf ao cap l) (hg : Ru.Good 64 wf l) (hn : n₀ ≤ w.heap.size) (h1 : wf ≤ f) (h2 : f ≤ 1073741824) :
 Calls Tryz.prog 133 #[.pointer (some ⟨b, 0, none⟩), .int .i64 f, .int .u8 x] w fun e w' => ∃ r, e = .returned (.int .i64 r) ∧
  ∃ ao' cap' l', Ru.Win w' n₀ 177 189 b 64 wf ao' cap' l' ∧ Ru.Good 64 wf l' ∧ (∀ g : Int, look l' g = if g = f ∧ f - wf < 64 then some x else look l g) ∧ Near ao ao' w.heap.size ∧ Keeps (Foot b ao) w w' := by
 by_cases hf : f - wf < 64
 · refine (Ru.put_c f x n₀ b 64 cap wf ao l w h hg.up (Nat.le_trans hg.len (by decide)) hn hg.ge h1 h2 hf).mono ?_
   rintro e w' ⟨rfl, ao', cap', hw, hn', hk⟩
   have hg' := hg.put (x := x) h1 hf h2
   refine ⟨_, rfl, ao', cap', _, hw, hg', fun g => ?_, hn', hk⟩
   rw [look_put hg.up hg'.up]
   by_cases e : g = f
   · rw [if_pos e, if_pos ⟨e, hf⟩]
   · rw [if_neg e, if_neg (fun h => e h.1)]
 · refine (Ru.put_full f x n₀ b 64 cap wf ao l w h hg.ge h1 (by omega) (.inl (by omega))).mono ?_
   rintro e w' ⟨rfl, q, rfl⟩
   refine ⟨_, rfl, ao, cap, l, h.drewN q, hg, fun g => ?_, Near.refl _ _, Keeps.drewN _ _ _⟩
   rw [if_neg (fun h => hf h.2)]

theorem take_no (f : Int) (n₀ b : Nat) (F : Nat → Prop) (m : Fd) (w : World) (h : Fed w n₀ b F m) (hf : ¬ isTk m f) :
 Calls Tryz.prog 88 #[.pointer (some ⟨b, 0, none⟩), .int .i64 f] w fun e w' => e = .returned (.tuple #[.int .u8 (takeV m f), .bool (takeB m f && decide (isTk m f))]) ∧ Left n₀ b F (takeM m f) w w' := by
 rw [takeM_no hf]
 have e1 : takeV m f = 0 := by unfold takeV; rw [if_neg hf]
 have e2 : decide (isTk m f) = false := by simpa using hf
 rw [e1, e2, Bool.and_false]
 have HL := hid (Left.same h (Below.refl _ _))
 obtain ⟨br, bw, ao, cap, aw, capw, l, hp, _, _, ho, rfl⟩ := h
 obtain ⟨c0, _, _, _⟩ := hp.cells
 clear hp ho e1 e2
 by_cases h1 : f < (m.first : Int)
 · have d1 : decide (f < (m.first : Int)) = true := by simpa using h1
   clear hf
   go_enter Tryz.func88, Tryz.ntmps88
   go_wp2_with fail
   go_ret2
   exact ⟨rfl, HL.out⟩
 · have d1 : decide (f < (m.first : Int)) = false := by simpa using h1
   have d2 : decide (1073741824 < f) = true := by unfold isTk at hf; simp; omega
   clear hf
   go_enter Tryz.func88, Tryz.ntmps88
   go_wp2_with fail
   go_ret2
   exact ⟨rfl, HL.out⟩

theorem wF_at {m : Fd} {f : Int} (h : isTk m f) : wF m = (m.first : Int) := by
 unfold isTk at h
 unfold wF
 rw [if_pos (by omega)]

/-- what the parts are behind a taking. -/
theorem take_left {w w1 : World} {n₀ b br bw : Nat} {ao : Option Addr} {cap : Nat} {aw : Option Addr} {capw : Nat} {m : Fd} {l : List (Int × Int)} {f : Int} (hp : Parts w n₀ b br bw ao cap aw capw m.first (kept m) (gs m) (wF m) l) (ho : Ok m) (hl : ∀ k : Nat, m.first ≤ k → m.us k = look l k) (hf : isTk m f)
 {aw' : Option Addr} {capw' : Nat} {l' : List (Int × Int)} (q : Nat) (hw : Ru.Win w1 n₀ 177 189 bw 64 (wF m) aw' capw' l') (hg : Ru.Good 64 (wF m) l') (hk : ∀ g : Int, look l' g = if g = f ∧ f - wF m < 64 then some (tk m f) else look l g) (hn : Near aw aw' w.heap.size) (hkp : Keeps (Foot bw aw) (w.drewN q) w1) :
 Left n₀ b (FFoot b br bw ao aw) (takeM m f) w w1 := by
 obtain ⟨hp1, hk1⟩ := (hp.drewN q).setW hw hkp
 have hk2 : Keeps (FFoot b br bw ao aw) w w1 := (Keeps.drewN _ w q).trans hk1 (fun _ _ e => e)
 have e1 : (takeM m f).first = m.first := take_first m f
 have e2 : (takeM m f).L = m.L := take_L m f
 have e3 : kept (takeM m f) = kept m := by unfold kept; rw [e1, e2]
 have e4 : gs (takeM m f) = gs m := by unfold gs; rw [e2]
 have e5 : wF (takeM m f) = wF m := by unfold wF; rw [e1]
 refine Left.mk' (m' := takeM m f) (cap := cap) (capw := capw') ?_ (by rw [e5]; exact hg) ?_ (ok_take ho f) (Near.refl _ _) hn hk2
 · rw [e1, e3, e4, e5]; exact hp1
 · intro k hk0
   rw [e1] at hk0
   rw [hk]
   have hwf := wF_at hf
   unfold takeM
   by_cases hc : f - (m.first : Int) < 64
   · rw [if_pos ⟨hf, hc⟩]
     dsimp only
     by_cases e : (k : Int) = f
     · rw [if_pos e, if_pos ⟨e, by rw [hwf]; exact hc⟩]
     · rw [if_neg e, if_neg (fun h => e h.1)]
       exact hl k hk0
   · rw [if_neg (fun h => hc h.2), if_neg (fun h => hc (by rw [← hwf]; exact h.2))]
     exact hl k hk0

theorem take_in (f : Int) (n₀ b : Nat) (F : Nat → Prop) (m : Fd) (w : World) (h : Fed w n₀ b F m) (hf : isTk m f) :
 Calls Tryz.prog 88 #[.pointer (some ⟨b, 0, none⟩), .int .i64 f] w fun e w' => e = .returned (.tuple #[.int .u8 (tk m f), .bool (knB m f)]) ∧ Left n₀ b F (takeM m f) w w' := by
 have hf2 : (m.first : Int) ≤ f ∧ f ≤ 1073741824 := hf
 have HK := hid (known_c f n₀ b F m w h (by omega))
 obtain ⟨br, bw, ao, cap, aw, capw, l, hp, hg, hl, ho, rfl⟩ := h
 obtain ⟨c0, c1, c2, c3⟩ := hp.cells
 have hn : n₀ ≤ w.heap.size := by have := hp.ge; have := hp.lt; omega
 have HW := hid (fun q x => wput_c f x n₀ bw capw (wF m) aw l (w.drewN q) (hp.drewN q).win hg hn (by rw [wF_at hf]; exact hf2.1) hf2.2)
 have HT := hid (fun (w1 : World) (aw' : Option Addr) (capw' : Nat) (l' : List (Int × Int)) (q : Nat) => take_left (w1 := w1) (aw' := aw') (capw' := capw') (l' := l') hp ho hl hf q)
 have d1 : decide (f < (m.first : Int)) = false := by simp; omega
 have d2 : decide (1073741824 < f) = false := by simp; omega
 have ht := tk_is m f
 clear hp hg hl ho hn hf2 hf
 generalize hx : tk m f = x at *
 cases hb : knB m f with
 | true =>
  rw [hb, if_pos rfl] at ht
  have HB := hid hb
  have HX := hid ht.symm
  clear hb ht hx
  go_enter Tryz.func88, Tryz.ntmps88
  go_wp2_with (first
   | (go_at_call 56; ((with_reducible refine HK.out.mono ?_); rintro e w' ⟨rfl, q, rfl⟩; rw [HB.out, HX.out]))
   | (go_at_call 133; ((with_reducible refine (HW.out _ _).mono ?_); rintro e w1 ⟨r, rfl, aw', capw', l', hw1, hg1, hk1, hn1, hkp1⟩)))
  go_ret2
  exact ⟨rfl, HT.out _ _ _ _ _ hw1 hg1 hk1 hn1 hkp1⟩
 | false =>
  rw [hb, if_neg (by decide)] at ht
  have HB := hid hb
  rw [← ht] at c2
  clear hb hx ht
  go_enter Tryz.func88, Tryz.ntmps88
  go_wp2_with (first
   | (go_at_call 56; ((with_reducible refine HK.out.mono ?_); rintro e w' ⟨rfl, q, rfl⟩; rw [HB.out]))
   | (go_at_call 133; ((with_reducible refine (HW.out _ _).mono ?_); rintro e w1 ⟨r, rfl, aw', capw', l', hw1, hg1, hk1, hn1, hkp1⟩)))
  go_ret2
  exact ⟨rfl, HT.out _ _ _ _ _ hw1 hg1 hk1 hn1 hkp1⟩

theorem take_c (f : Int) (n₀ b : Nat) (F : Nat → Prop) (m : Fd) (w : World) (h : Fed w n₀ b F m) :
 Calls Tryz.prog 88 #[.pointer (some ⟨b, 0, none⟩), .int .i64 f] w fun e w' => e = .returned (.tuple #[.int .u8 (takeV m f), .bool (takeB m f && decide (isTk m f))]) ∧ Left n₀ b F (takeM m f) w w' := by
 by_cases hf : isTk m f
 · have e1 : takeV m f = tk m f := by unfold takeV; rw [if_pos hf]
   have e2 : decide (isTk m f) = true := by simpa using hf
   rw [e1, e2, Bool.and_true]
   exact take_in f n₀ b F m w h hf
 · exact take_no f n₀ b F m w h hf

end Go.Proofs.YtfclnhmijjlhdaaGreatDoor.Fd
