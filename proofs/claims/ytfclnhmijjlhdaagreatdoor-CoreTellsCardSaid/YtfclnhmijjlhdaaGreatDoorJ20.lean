/- What New and Trim of layer 14 (feed) return, and what they leave of the feed. -/
/- What Wrong of layer 14 (feed) returns: the first frame that is known, and kept, for which something else was used. -/
import Derived.Deep.DeepCutAuto
import Derived.Test.YtfclnhmijjlhdaaGreatDoorJ19
namespace Go.Proofs.YtfclnhmijjlhdaaGreatDoor.Fd
open Go.RowKit Go.Proofs.YtfclnhmijjlhdaaGreatDoor.Rg
set_option linter.unusedVariables false
set_option maxRecDepth 100000

theorem new_c (n₀ : Nat) (w : World) (hn : n₀ ≤ w.heap.size) :
 Calls Tryz.prog 33 #[] w fun e w' => ∃ b, e = .returned (.pointer (some ⟨b, 0, none⟩)) ∧ ∃ F, Fed w' n₀ b F newF ∧ (∀ i, F i → w.heap.size ≤ i) ∧ Below w.heap.size w w' := by
 have HN : Hid (Calls Tryz.prog 76 #[.int .i64 64] w fun e w' => e = .returned (.tuple #[.pointer (some ⟨w.heap.size, 0, none⟩), .int .i64 0]) ∧ w' = w.alloc (.cells #[.int .i64 64, .slice none 0 0] 174)) := Ru.new_c 64 (by decide) w
 obtain ⟨W, hW⟩ : ∃ W, W = w.alloc (.cells #[.int .i64 64, .slice none 0 0] 174) := ⟨_, rfl⟩
 have hR : Ru.Ring W n₀ 174 w.heap.size 64 none 0 [] := by rw [hW]; exact Held.new w n₀ 174 5 1 [.int .i64 (64 : Nat)] hn
 have hB : Below w.heap.size w W := by rw [hW]; exact (Below.refl _ w).alloc (Nat.le_refl _) _
 have hs : W.heap.size = w.heap.size + 1 := by rw [hW]; simp
 have HW := hid hW
 have HO : Hid (Calls Tryz.prog 77 #[.int .i64 64, .int .i64 0] W fun e w' => e = .returned (.tuple #[.pointer (some ⟨W.heap.size, 0, none⟩), .int .i64 0]) ∧ Ru.Win w' n₀ 177 189 W.heap.size 64 0 none 0 [] ∧ Below W.heap.size W w') := Ru.open_c 64 0 n₀ (by decide) (by decide) W (by omega)
 have HR := hid hR
 have HB := hid hB
 have HS := hid hs
 clear hW hR hB hs
 go_enter Tryz.func33, Tryz.ntmps33
 go_wp2_with (first
  | (go_at_call 76; ((with_reducible refine HN.out.mono ?_); rintro e w' ⟨rfl, rfl⟩; rw [← HW.out]))
  | (go_at_call 77; ((with_reducible refine HO.out.mono ?_); rintro e w1 ⟨rfl, hw1, hb1⟩)))
 go_ret
 have hb2 := HB.out
 have hs := HS.out
 have hb3 : Below w.heap.size w w1 := hb2.trans (hb1.mono (by omega))
 have hge := hb1.size
 have hb4 : Below w.heap.size w (w1.alloc (.cells #[.int .i64 0, .pointer (some ⟨w.heap.size, 0, none⟩), .int .u8 0, .pointer (some ⟨W.heap.size, 0, none⟩)] 141)) := hb3.alloc (by omega) _
 refine ⟨w1.heap.size, rfl, FFoot w1.heap.size w.heap.size W.heap.size none none, ⟨w.heap.size, W.heap.size, none, 0, none, 0, [], ⟨?_, by omega, ?_, ?_⟩, Ru.Good.nil _ _ (wF_ge newF).1, fun k _ => rfl, ok_new, rfl⟩, ?_, hb4⟩
 · exact heap_alloc_new w1 _
 · have h1 := HR.out.old hb1
   exact h1.alloc _
 · exact hw1.alloc _
 · rintro i (rfl | (rfl | ⟨a, ha, _⟩) | (rfl | ⟨a, ha, _⟩))
   · omega
   · omega
   · cases ha
   · omega
   · cases ha

theorem trim_nil (f : Int) (w : World) :
 Calls Tryz.prog 57 #[.pointer none, .int .i64 f] w fun e w' => e = .returned (.int .i64 0) ∧ w = w' := by
 go_enter Tryz.func57, Tryz.ntmps57
 go_wp2_with fail
 go_ret
 exact ⟨rfl, rfl⟩

/-- the first one is taken off. -/
theorem pop_one {l : List Int} (h : 0 < l.length) : Ru.takeL l 0 = l.drop 1 := by
 have := Ru.takeL_in (l := l) (k := 0) h
 simpa using this

/-- a feed in the midst of a trimming: k of the known ones are off. -/
def Mid (w : World) (n₀ b : Nat) (w0 : World) (br bw : Nat) (ao aw : Option Addr) (capw : Nat) (m : Fd) (l : List (Int × Int)) (k : Nat) : Prop :=
 ∃ ao' cap', Parts w n₀ b br bw ao' cap' aw capw m.first ((kept m).drop k) (gs m) (wF m) l ∧ Near ao ao' w0.heap.size ∧ Keeps (FFoot b br bw ao aw) w0 w
theorem Mid.pop {w w0 : World} {n₀ b br bw : Nat} {ao aw : Option Addr} {capw : Nat} {m : Fd} {l : List (Int × Int)} {k : Nat} (h : Mid w n₀ b w0 br bw ao aw capw m l k) (ho : Ok m) (hk : k < (kept m).length) :
 Calls Tryz.prog 93 #[.pointer (some ⟨br, 0, none⟩)] w fun e w' => ∃ x y, e = .returned (.tuple #[x, y]) ∧ Mid w' n₀ b w0 br bw ao aw capw m l (k + 1) := by
 obtain ⟨ao', cap', hp, hn, hkp⟩ := h
 have hl : ((kept m).drop k).length ≤ 4096 := by have := ho.few; have := kept_len ho; rw [List.length_drop]; omega
 refine (Ru.pop_c n₀ br 64 cap' ao' _ w hp.ring hl).mono ?_
 rintro e w' ⟨rfl, ao2, cap2, hr, hn2, hk2⟩
 obtain ⟨hp2, hk3⟩ := hp.setR hr hk2
 rw [pop_one (by rw [List.length_drop]; omega), List.drop_drop] at hp2
 refine ⟨_, _, rfl, ao2, cap2, hp2, hn.trans hn2 hkp.size, hkp.trans hk3 (fun i hi hf => ?_)⟩
 rcases foot_near hn (Near.refl _ _) hf with h1 | h1
 · exact h1
 · omega
theorem Mid.c1 {w w0 : World} {n₀ b br bw : Nat} {ao aw : Option Addr} {capw : Nat} {m : Fd} {l : List (Int × Int)} {k : Nat} (h : Mid w n₀ b w0 br bw ao aw capw m l k) : w.cell? ⟨b, 0, none⟩ = some (.int .i64 m.first) ∧ w.cell? ⟨b, 1, none⟩ = some (.pointer (some ⟨br, 0, none⟩)) ∧ w.cell? ⟨b, 3, none⟩ = some (.pointer (some ⟨bw, 0, none⟩)) ∧ w.frozen? ⟨b, 0, none⟩ = false := by
 obtain ⟨ao', cap', hp, _, _⟩ := h
 exact ⟨hp.cells.1, hp.cells.2.1, hp.cells.2.2.2, hp.frozen 0⟩

theorem Mid.stored {w w0 : World} {n₀ b br bw : Nat} {ao aw : Option Addr} {capw : Nat} {m : Fd} {l : List (Int × Int)} {k : Nat} (h : Mid w n₀ b w0 br bw ao aw capw m l k) (x : Int) : (w.setCell ⟨b, 0, none⟩ (.int .i64 x)).cell? ⟨b, 0, none⟩ = some (.int .i64 x) ∧ (w.setCell ⟨b, 0, none⟩ (.int .i64 x)).cell? ⟨b, 3, none⟩ = some (.pointer (some ⟨bw, 0, none⟩)) := by
 obtain ⟨ao', cap', hp, _, _⟩ := h
 obtain ⟨hp1, _⟩ := hp.setF x
 exact ⟨hp1.cells.1, hp1.cells.2.2.2⟩

theorem trim_first (m : Fd) (f : Int) : (trimM m f).first = m.first + trimN m f := by simp only [trimM, trimN]; omega
theorem trim_kept (m : Fd) (f : Int) : kept (trimM m f) = (kept m).drop (trimN m f) := by
 unfold kept
 rw [trim_first, List.drop_drop]
 rfl
theorem trim_gs (m : Fd) (f : Int) : gs (trimM m f) = gs m := rfl
theorem trim_wF {m : Fd} (h : Ok m) (f : Int) : min (((trimM m f).first : Nat) : Int) 1073741824 = wF (trimM m f) := by
 unfold wF
 split <;> omega

/-- all that is behind the last store: the window moves on. -/
theorem Mid.done {w w0 : World} {n₀ b br bw : Nat} {ao aw : Option Addr} {capw : Nat} {m : Fd} {l : List (Int × Int)} (f : Int) (h : Mid w n₀ b w0 br bw ao aw capw m l (trimN m f)) (hg : Ru.Good 64 (wF m) l) (hl : ∀ k : Nat, m.first ≤ k → m.us k = look l k) (ho : Ok m) (W : World) (hW : W = w.setCell ⟨b, 0, none⟩ (.int .i64 (trimM m f).first) ∨ ∃ q, W = (w.setCell ⟨b, 0, none⟩ (.int .i64 (trimM m f).first)).drewN q) :
 Calls Tryz.prog 94 #[.pointer (some ⟨bw, 0, none⟩), .int .i64 (min (((trimM m f).first : Nat) : Int) 1073741824)] W fun e w' => ∃ r, e = .returned (.int .i64 r) ∧ Left n₀ b (FFoot b br bw ao aw) (trimM m f) w0 w' ∧ w'.cell? ⟨b, 0, none⟩ = some (.int .i64 (trimM m f).first) ∧ w'.cell? ⟨b, 3, none⟩ = some (.pointer (some ⟨bw, 0, none⟩)) := by
 rw [trim_wF ho f]
 obtain ⟨ao', cap', hp, hn, hkp⟩ := h
 obtain ⟨hp1, hk1⟩ := hp.setF ((trimM m f).first : Int)
 have hp2 : Parts W n₀ b br bw ao' cap' aw capw (trimM m f).first ((kept m).drop (trimN m f)) (gs m) (wF m) l ∧ Keeps (FFoot b br bw ao' aw) w W := by
  rcases hW with rfl | ⟨q, rfl⟩
  · exact ⟨hp1, hk1⟩
  · exact ⟨hp1.drewN q, hk1.drew q⟩
 obtain ⟨hp3, hk3⟩ := hp2
 have h1 : wF m ≤ wF (trimM m f) ∧ wF (trimM m f) ≤ 1073741824 := by
  refine ⟨?_, (wF_ge _).2.1⟩
  have := trim_first m f
  unfold wF
  split <;> split <;> omega
 refine (Ru.move_c (wF (trimM m f)) n₀ bw 64 capw (wF m) aw l W hp3.win hg.up (Nat.le_trans hg.len (by decide)) h1).mono ?_
 rintro e w' ⟨rfl, hw, hk4⟩
 obtain ⟨hp4, hk5⟩ := hp3.setW hw hk4
 refine ⟨_, rfl, Left.mk' (m' := trimM m f) (cap := cap') (capw := capw) ?_ (hg.moved h1.1) ?_ (ok_trim ho f) hn (Near.refl _ _) ?_, hp4.cells.1, hp4.cells.2.2.2⟩
 · rw [trim_kept, trim_gs]; exact hp4
 · intro k hk
   have h2 : wF (trimM m f) ≤ (k : Int) := by have := (wF_ge (trimM m f)).2.2; omega
   rw [look_drop hg.up h2]
   rw [trim_first] at hk
   rw [← hl k (by omega)]
   simp only [trimM]
   rw [if_neg]
   have := ho.le
   simp only [trimN] at hk
   omega
 · refine hkp.trans (hk3.trans hk5 (fun _ _ e => e)) (fun i hi hf => ?_)
   rcases foot_near hn (Near.refl _ _) hf with h1 | h1
   · exact h1
   · omega

set_option maxHeartbeats 1000000 in
theorem trim_c (f : Int) (n₀ b : Nat) (F : Nat → Prop) (m : Fd) (w : World) (h : Fed w n₀ b F m) :
 Calls Tryz.prog 57 #[.pointer (some ⟨b, 0, none⟩), .int .i64 f] w fun e w' => e = .returned (.int .i64 (trimN m f)) ∧ Left n₀ b F (trimM m f) w w' := by
 have HA := hid (ahead_c f n₀ b F m w h)
 obtain ⟨br, bw, ao, cap, aw, capw, l, hp, hg, hl, ho, rfl⟩ := h
 have H0 := hid (fun q => (⟨ao, cap, hp.drewN q, Near.refl _ _, Keeps.drewN _ _ _⟩ : Mid (w.drewN q) n₀ b w br bw ao aw capw m l 0))
 have hN : trimN m f ≤ (kept m).length := by have := kept_len ho; unfold trimN; omega
 have h64 := ho.len
 have hle := ho.le
 have hfe := hid (trim_first m f)
 have hwf := hid (trim_wF ho f)
 obtain ⟨N, HN⟩ : ∃ N, Hid (trimN m f = N) := ⟨_, rfl⟩
 have hw : IntKind.i64.wrap ((m.first : Int) + (N : Int)) = (((trimM m f).first : Nat) : Int) := by
  rw [hfe.out, HN.out, IntWalk.i64_in _ (by have := kept_len ho; rw [HN.out] at hN; omega)]
  omega
 have HK := hid (kept_len ho)
 rw [HN.out] at HA hN ⊢
 have HD : Hid (∀ (w1 : World), Mid w1 n₀ b w br bw ao aw capw m l N → Calls Tryz.prog 94 #[.pointer (some ⟨bw, 0, none⟩), .int .i64 (min (((trimM m f).first : Nat) : Int) 1073741824)] (w1.setCell ⟨b, 0, none⟩ (.int .i64 (trimM m f).first)).drew fun e w' => ∃ r, e = .returned (.int .i64 r) ∧ Left n₀ b (FFoot b br bw ao aw) (trimM m f) w w' ∧ w'.cell? ⟨b, 0, none⟩ = some (.int .i64 (trimM m f).first) ∧ w'.cell? ⟨b, 3, none⟩ = some (.pointer (some ⟨bw, 0, none⟩))) :=
  fun w1 h => Mid.done f (by rw [HN.out]; exact h) hg hl ho _ (.inr ⟨1, rfl⟩)
 have HM := hid hN
 have HO := hid ho
 have hNL : N ≤ 1073741825 := by have := kept_len ho; omega
 clear hp hg hl ho hN
 go_enter Tryz.func57, Tryz.ntmps57
 go_wp2_with (go_at_call 92; ((with_reducible refine HA.out.mono ?_); rintro e w' ⟨rfl, q, rfl⟩))
 go_loopg [12] N (fun gk s12 wr => ∃ k : Nat, gk + k = N ∧ s12 = .int .i64 k ∧ Mid wr n₀ b w br bw ao aw capw m l k)
 case atStart => exact ⟨0, rfl, rfl, H0.out _⟩
 case round =>
  obtain ⟨k, hk, rfl, hI⟩ := hrel
  obtain ⟨c0, c1, c3, f0⟩ := hI.c1
  by_cases hkN : k < N
  · have HP := hid (hI.pop HO.out (by have := HM.out; omega))
    clear hI c0 c3 f0
    go_wp2_with (go_at_call 93; ((with_reducible refine HP.out.mono ?_); rintro e w1 ⟨x, y, rfl, hI1⟩))
    go_roundg (N - (k + 1))
    case measure => omega
    case rel => exact ⟨k + 1, by omega, by go_num, hI1⟩
  · have e : k = N := by omega
    subst e
    have HW := hid (HD.out wr hI)
    obtain ⟨g0, g3⟩ := hI.stored (((trimM m f).first : Nat) : Int)
    clear hI c1 c3
    go_upto_region 9 with (fail)
    generalize wr.setCell ⟨b, 0, none⟩ (.int .i64 (trimM m f).first) = wz at g0 g3 HW ⊢
    clear c0
    go_region_held3 (fun w' => w'.cell? ⟨b, 0, none⟩ = some (.int .i64 (trimM m f).first) ∧ w'.cell? ⟨b, 3, none⟩ = some (.pointer (some ⟨bw, 0, none⟩)))
     (go_keep)
     (first | (go_at_call 94; ((with_reducible refine HW.out.mono ?_); rintro e w' ⟨r, rfl, hL, g0', g3'⟩)))
    all_goals
     go_wp2_with fail
     go_ret
     exact ⟨rfl, hL⟩

end Go.Proofs.YtfclnhmijjlhdaaGreatDoor.Fd

namespace Go.Proofs.YtfclnhmijjlhdaaGreatDoor.Fd
open Go.RowKit Go.Proofs.YtfclnhmijjlhdaaGreatDoor.Rg
set_option linter.unusedVariables false
set_option maxRecDepth 100000

theorem wrong_nil (w : World) :
 Calls Tryz.prog 55 #[.pointer none] w fun e w' => e = .returned (.tuple #[.int .i64 0, .bool false]) ∧ w = w' := by
 go_enter Tryz.func55, Tryz.ntmps55
 go_wp2_with (first
  | (go_at_call 89; ((with_reducible refine (first_nil _).mono ?_); rintro e w' ⟨rfl, rfl⟩))
  | (go_at_call 71; ((with_reducible refine (next_nil _).mono ?_); rintro e w' ⟨rfl, rfl⟩)))
 go_loopg [4] 0 (fun gk s4 wr => gk = 0 ∧ s4 = .int .i64 0 ∧ wr = w)
 case atStart => exact ⟨rfl, rfl, rfl⟩
 case round =>
  obtain ⟨rfl, rfl, rfl⟩ := hrel
  go_wp2_with (go_at_call 71; ((with_reducible refine (next_nil _).mono ?_); rintro e w' ⟨rfl, rfl⟩))
  go_ret2
  exact ⟨rfl, rfl⟩

theorem below_drew {n : Nat} {w W : World} (h : Below n w W) (q : Nat) : Below n w (W.drewN q) := ⟨h.os, h.tape, h.output, h.size, h.block⟩

set_option maxHeartbeats 1000000 in
theorem wrong_c (n₀ b : Nat) (F : Nat → Prop) (m : Fd) (w : World) (h : Fed w n₀ b F m) :
 Calls Tryz.prog 55 #[.pointer (some ⟨b, 0, none⟩)] w fun e w' => e = .returned (.tuple #[.int .i64 (wrongV m), .bool (wrong m).isSome]) ∧ Below w.heap.size w w' := by
 obtain ⟨br, bw, ao, cap, aw, capw, l, hp, hg, hl, ho, rfl⟩ := id h
 obtain ⟨c0, _, _, c3⟩ := hp.cells
 have h1 := ho.le
 have h2 := ho.len
 have HN := hid (fun (W : World) (hW : Below w.heap.size w W) => next_c n₀ b _ m W (h.old hW))
 have HK := hid (fun (W : World) (f : Int) (hf : f ≤ 9223372036854775807) (hW : Below w.heap.size w W) => known_c f n₀ b _ m W (h.old hW) hf)
 have HG := hid (fun (W : World) (f : Int) (hW : Below w.heap.size w W) => Ru.get_c f n₀ bw 64 capw (wF m) aw l W (hp.old hW).win hg.up (Nat.le_trans hg.len (by decide)))
 have HC := hid (fun (W : World) (hW : Below w.heap.size w W) => (hp.old hW).cells.2.2.2)
 have HL := hid hl
 clear h hp hg hl ho
 go_enter Tryz.func55, Tryz.ntmps55
 go_wp2_with (go_at_call 89; ((with_reducible refine (first_c _ _ _ c0).mono ?_); rintro e w' ⟨rfl, rfl⟩))
 clear c0 c3
 go_loopg [4] (m.L.length - m.first) (fun gk s4 wr => ∃ k : Nat, gk + k = m.L.length ∧ m.first ≤ k ∧ s4 = .int .i64 k ∧ (∀ j, m.first ≤ j → j < k → isWrong m j = false) ∧ Below w.heap.size w wr)
 case atStart => exact ⟨m.first, by omega, Nat.le_refl _, rfl, fun j h3 h4 => by omega, Below.refl _ _⟩
 case round =>
  obtain ⟨k, hk, hkf, rfl, hno, hB⟩ := hrel
  have N0 := hid (HN.out wr hB)
  have HNO := hid hno
  have HB := hid hB
  have c3 := HC.out wr hB
  by_cases hlt : k < m.L.length
  · have K0 := hid (fun q => HK.out (wr.drewN q) (k : Int) (by omega) (below_drew hB q))
    have G0 := hid (fun q => HG.out (wr.drewN q) (k : Int) (below_drew hB q))
    have hkn := kn_in (m := m) hkf hlt
    obtain ⟨y, hy⟩ : ∃ y, m.L[k]'hlt = y := ⟨_, rfl⟩
    have KV : Hid (knV m (k : Int) = y) := by show _ = _; rw [← hy]; simp [knV, hkn]
    have KB : Hid (knB m (k : Int) = true) := by show _ = _; simp [knB, hkn]
    have hLk : m.L[k]? = some y := by rw [← hy]; exact List.getElem?_eq_getElem hlt
    have hus := HL.out k hkf
    have d1 : decide ((k : Int) < (m.L.length : Int)) = true := by simp; omega
    have hw : IntKind.i64.wrap ((k : Int) + 1) = (k : Int) + 1 := IntWalk.i64_in _ (by omega)
    have next : isWrong m k = false → Hid (∃ k' : Nat, (m.L.length - (k + 1)) + k' = m.L.length ∧ m.first ≤ k' ∧ (Value.int .i64 ((k : Int) + 1)) = .int .i64 k' ∧ (∀ j, m.first ≤ j → j < k' → isWrong m j = false)) := fun h => ⟨k + 1, by omega, by omega, by go_num, fun j h3 h4 => by
     by_cases e : j = k
     · subst e; exact h
     · exact HNO.out j h3 (by omega)⟩
    clear hno hB hkn hy
    by_cases hF : Ru.hasF l (k : Int) = true
    · have hus2 : m.us k = some (Ru.thingI l (k : Int)) := by rw [hus]; unfold look; rw [if_pos hF]
      obtain ⟨x, X⟩ : ∃ x, Hid (Ru.thingI l (k : Int) = x) := ⟨_, rfl⟩
      rw [X.out] at hus2
      have HF := hid hF
      by_cases hxy : x = y
      · have hn := next (by simp [isWrong, hus2, hLk, hxy])
        have d2 : (x == y) = true := by simpa using hxy
        clear next hus hus2 hF hLk hxy
        go_wp2_with (first
         | (go_at_call 71; ((with_reducible refine N0.out.mono ?_); rintro e w' ⟨rfl, q, rfl⟩))
         | (go_at_call 56; ((with_reducible refine (K0.out _).mono ?_); rintro e w' ⟨rfl, q2, rfl⟩; rw [KV.out, KB.out]))
         | (go_at_call 90; ((with_reducible refine (G0.out _).mono ?_); rintro e w5 ⟨rfl, hB5⟩; rw [X.out, HF.out])))
        go_roundg (m.L.length - (k + 1))
        case measure => omega
        case rel =>
         obtain ⟨k', a1, a2, a3, a4⟩ := hn.out
         exact ⟨k', a1, a2, a3, a4, (below_drew HB.out _).trans (hB5.mono HB.out.size)⟩
      · have hw2 : isWrong m k = true := by simp [isWrong, hus2, hLk]; exact fun e => hxy e.symm
        have hwr := wrong_is hkf hlt hw2 HNO.out
        have W1 : Hid (wrongV m = (k : Int)) := by show _ = _; simp [wrongV, hwr]
        have W2 : Hid ((wrong m).isSome = true) := by show _ = _; simp [hwr]
        have d2 : (x == y) = false := by simpa using hxy
        clear next hus hus2 hF hLk hxy hw2 hwr
        go_wp2_with (first
         | (go_at_call 71; ((with_reducible refine N0.out.mono ?_); rintro e w' ⟨rfl, q, rfl⟩))
         | (go_at_call 56; ((with_reducible refine (K0.out _).mono ?_); rintro e w' ⟨rfl, q2, rfl⟩; rw [KV.out, KB.out]))
         | (go_at_call 90; ((with_reducible refine (G0.out _).mono ?_); rintro e w5 ⟨rfl, hB5⟩; rw [X.out, HF.out])))
        go_ret2
        exact ⟨by rw [W1.out, W2.out]; rfl, (below_drew HB.out _).trans (hB5.mono HB.out.size)⟩
    · have hF2 : Ru.hasF l (k : Int) = false := by simpa using hF
      have hus2 : m.us k = none := by rw [hus]; unfold look; rw [if_neg hF]
      have hn := next (by simp [isWrong, hus2])
      have HF := hid hF2
      clear next hus hus2 hF hF2 hLk
      go_wp2_with (first
       | (go_at_call 71; ((with_reducible refine N0.out.mono ?_); rintro e w' ⟨rfl, q, rfl⟩))
       | (go_at_call 56; ((with_reducible refine (K0.out _).mono ?_); rintro e w' ⟨rfl, q2, rfl⟩; rw [KV.out, KB.out]))
       | (go_at_call 90; ((with_reducible refine (G0.out _).mono ?_); rintro e w5 ⟨rfl, hB5⟩; rw [HF.out])))
      go_roundg (m.L.length - (k + 1))
      case measure => omega
      case rel =>
       obtain ⟨k', a1, a2, a3, a4⟩ := hn.out
       exact ⟨k', a1, a2, a3, a4, (below_drew HB.out _).trans (hB5.mono HB.out.size)⟩
  · have d1 : decide ((k : Int) < (m.L.length : Int)) = false := by simp; omega
    have hwr : wrong m = none := wrong_none.2 (fun j h3 h4 => hno j h3 (by omega))
    have W1 : Hid (wrongV m = 0) := by show _ = _; simp [wrongV, hwr]
    have W2 : Hid ((wrong m).isSome = false) := by show _ = _; simp [hwr]
    clear hno hB hwr
    go_wp2_with (go_at_call 71; ((with_reducible refine N0.out.mono ?_); rintro e w' ⟨rfl, q, rfl⟩))
    go_ret2
    exact ⟨by rw [W1.out, W2.out]; rfl, below_drew HB.out _⟩

end Go.Proofs.YtfclnhmijjlhdaaGreatDoor.Fd
