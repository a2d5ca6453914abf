/- What Spoil of layer 8 (cable), and the document's Spoilt, return, and what they leave of the cable. -/
import Derived.Test.YtfifoikphhjomaaCbMore
namespace Go.Proofs.Ytfifoikphhjomaa.Cb
open Go.RowKit Go.Proofs.Ytfifoikphhjomaa.Rg
set_option linter.unusedVariables false

/-- a place, the byte there, and the bytes with it turned. -/
theorem spoil_at (s : ByteArray) (at_ by_ : Int) (h : 0 < s.size) (hb : 0 ≤ by_ ∧ by_ ≤ 255) :
    ∃ (k : Nat) (x c : UInt8), placeI at_ s.size = k ∧ k < s.size ∧ bits .xor .u8 (x.toNat : Int) by_ = (c.toNat : Int) ∧ spoilS s at_ by_ = ⟨(s.data.toList.set k c).toArray⟩ ∧ (s.data.toList.set k c).length = s.size ∧
      (∀ W B, RowB W B s.data.toList → W.cell? ⟨B, k, none⟩ = some (.int .u8 (x.toNat : Int)) ∧ W.frozen? ⟨B, k, none⟩ = false) ∧
      (∀ W B, RowB W B s.data.toList → RowB (W.setCell ⟨B, k, none⟩ (.int .u8 (c.toNat : Int))) B (s.data.toList.set k c)) := by
  obtain ⟨k, hk, e⟩ := place_bd at_ s.size h
  have hl : s.data.toList.length = s.size := (Lib.size_eq s).symm
  have hkl : k < s.data.toList.length := by omega
  refine ⟨k, s.data.toList[k], UInt8.ofNat (s.data.toList[k].toNat ^^^ by_.toNat), e, hk, xor_byte _ by_ hb, ?_, by rw [List.length_set]; exact hl, fun W B hr => hr k hkl, fun W B hr => hr.set k _ hkl⟩
  unfold spoilS
  rw [e, Int.toNat_natCast, List.getElem?_eq_getElem hkl]
  rfl

theorem spoilt_c (s : ByteArray) (at_ by_ : Int) (w : World) (h0 : 0 < s.size) (h1 : s.size ≤ 1048576) (hb : 0 ≤ by_ ∧ by_ ≤ 255) :
    Calls Try.prog 21 #[.string s, .int .i64 at_, .int .u8 by_] w fun e w' => e = .returned (.string (spoilS s at_ by_)) ∧ Below w.heap.size w w' := by
  obtain ⟨k, x, c, hp, hk, hx, hsp, hl2, hat, hset⟩ := spoil_at s at_ by_ h0 hb
  obtain ⟨p1, p2⟩ := place_rem at_ s.size h0
  rw [hp] at p1 p2
  have h5 : at_.tmod s.size < s.size := Int.tmod_lt_of_pos at_ (by omega)
  have h6 : -(s.size : Int) < at_.tmod s.size := by
    have := Int.tmod_lt_of_pos (-at_) (show (0 : Int) < s.size by omega)
    rw [Int.neg_tmod] at this
    omega
  have hz : ((s.size : Int) == 0) = false := by rw [beq_eq_false_iff_ne]; omega
  have hw : wrap64 (at_.tmod s.size) = at_.tmod s.size := IntWalk.wrap64_in _ (by omega)
  have hw2 : IntKind.i64.wrap (at_.tmod s.size) = at_.tmod s.size := IntWalk.i64_in _ (by omega)
  have hw3 : IntKind.i64.wrap (at_.tmod s.size + s.size) = at_.tmod s.size + s.size := IntWalk.i64_in _ (by omega)
  have hcv := run_bytes_of_string (P := Try.prog) w 9 58 5 s Try.underlying9 Try.underlying58 Try.underlying5
  have hr := row_new w s (grownCap w s.size 0 5) 5 (grownCap_ge _ _ _ _)
  have hw1 : Below w.heap.size w (w.alloc (.cells (bytesRow s (grownCap w s.size 0 5)) 5 ((bytesRow s (grownCap w s.size 0 5)).size, (bytesRow s (grownCap w s.size 0 5)).size + 1))).drew := ((Below.refl _ w).alloc (Nat.le_refl _) _).drew
  rw [hsp]
  have P1 := hid p1
  have P2 := hid p2
  have Hset := hid hset
  have Hat := hid hat
  have Hl2 := hid hl2
  clear p1 p2 hset hat hl2 hsp hp
  go_enter Try.func21, Try.ntmps21
  go_upto_region 2 with (fail)
  clear hcv
  generalize (w.alloc (.cells (bytesRow s (grownCap w s.size 0 5)) 5 ((bytesRow s (grownCap w s.size 0 5)).size, (bytesRow s (grownCap w s.size 0 5)).size + 1))).drew = w2 at hr hw1 ⊢
  generalize grownCap w s.size 0 5 = cp
  obtain ⟨hcell, hfz⟩ := Hat.out w2 w.heap.size hr
  have hback := RowB.back (P := Try.prog) (Hset.out w2 w.heap.size hr) 58 9 5 cp s.size Hl2.out.symm Try.underlying58 Try.underlying5 Try.underlying9
  by_cases hneg : at_.tmod s.size < 0
  · go_upto_region 5 with (fail)
    rw [P1.out hneg]
    go_wp2_with fail
    go_ret
    exact ⟨rfl, hw1.setCell (Nat.le_refl _) _⟩
  · go_upto_region 5 with (fail)
    rw [P2.out hneg]
    go_wp2_with fail
    go_ret
    exact ⟨rfl, hw1.setCell (Nat.le_refl _) _⟩

theorem cspoil_nil (dd i at_ by_ : Int) (w : World) :
    Calls Try.prog 16 #[.pointer none, .int .i64 dd, .int .i64 i, .int .i64 at_, .int .u8 by_] w fun e w' => e = .returned (.tuple #[.string ⟨#[]⟩, .bool false]) ∧ w = w' := by
  go_enter Try.func16, Try.ntmps16
  go_wp2_with (go_at_call 12; ((with_reducible refine (ctake_nil _ _ _).mono ?_); rintro e w' ⟨rfl, rfl⟩))
  go_ret2
  exact ⟨rfl, rfl⟩

/-- what Spoil brings out. -/
def outS (L : Nat → List ByteArray) (dd i at_ by_ : Int) : ByteArray := if inB (flyL L dd).length i = true then spoilS (atS (flyL L dd) i) at_ by_ else ⟨#[]⟩

theorem cspoil_c (dd i at_ by_ : Int) (w : World) (n₀ size b : Nat) (bs : Nat → Nat) (aos : Nat → Option Addr) (caps : Nat → Nat) (st : St) (h : Cab w n₀ size b bs aos caps st) (hL : ∀ t, t < 2 → (st.L t).length ≤ 4096)
    (hS : inB (flyL st.L dd).length i = true → 0 < (atS (flyL st.L dd) i).size ∧ (atS (flyL st.L dd) i).size ≤ 1048576) (hb : 0 ≤ by_ ∧ by_ ≤ 255) :
    Calls Try.prog 16 #[.pointer (some ⟨b, 0, none⟩), .int .i64 dd, .int .i64 i, .int .i64 at_, .int .u8 by_] w fun e w' => e = .returned (.tuple #[.string (outS st.L dd i at_ by_), .bool (inB (flyL st.L dd).length i)]) ∧ Left n₀ size b bs aos (takeSt st dd i) w w' := by
  have Ht := hid (ctake_c dd i w n₀ size b bs aos caps st h hL)
  by_cases hB : inB (flyL st.L dd).length i = true
  · obtain ⟨h0, h1⟩ := hS hB
    rw [outS, if_pos hB, hB]
    have HB := hid hB
    clear hB h hL hS
    generalize atS (flyL st.L dd) i = s at Ht h0 h1 ⊢
    obtain ⟨k, x, c, hp, hk, hx, hsp, hl2, hat, hset⟩ := spoil_at s at_ by_ h0 hb
    have hcv := fun W : World => run_bytes_of_string (P := Try.prog) W 9 58 5 s Try.underlying9 Try.underlying58 Try.underlying5
    rw [hsp]
    have HP := hid hp
    have Hset := hid hset
    have Hat := hid hat
    have Hl2 := hid hl2
    clear hset hat hl2 hsp hp
    go_enter Try.func16, Try.ntmps16
    go_upto_region 5 with (go_at_call 12; ((with_reducible refine Ht.out.mono ?_); rintro e w1 ⟨rfl, hL1⟩; rw [HB.out]))
    have hr := row_new w1 s (grownCap w1 s.size 0 5) 5 (grownCap_ge _ _ _ _)
    have hw1 : Below w1.heap.size w1 (w1.alloc (.cells (bytesRow s (grownCap w1 s.size 0 5)) 5 ((bytesRow s (grownCap w1 s.size 0 5)).size, (bytesRow s (grownCap w1 s.size 0 5)).size + 1))).drew := ((Below.refl _ w1).alloc (Nat.le_refl _) _).drew
    clear hcv
    generalize (w1.alloc (.cells (bytesRow s (grownCap w1 s.size 0 5)) 5 ((bytesRow s (grownCap w1 s.size 0 5)).size, (bytesRow s (grownCap w1 s.size 0 5)).size + 1))).drew = w2 at hr hw1 ⊢
    generalize grownCap w1 s.size 0 5 = cp
    obtain ⟨hcell, hfz⟩ := Hat.out w2 w1.heap.size hr
    have hback := RowB.back (P := Try.prog) (Hset.out w2 w1.heap.size hr) 58 9 5 cp s.size Hl2.out.symm Try.underlying58 Try.underlying5 Try.underlying9
    go_wp2_with (go_at_call 29; ((with_reducible refine (place_c _ _ _ h0 h1).mono ?_); rintro e w' ⟨rfl, rfl⟩; rw [HP.out]))
    go_ret2
    obtain ⟨⟨aos1, caps1, h3, hn3⟩, hk3⟩ := hL1
    exact ⟨rfl, Left.trans hn3 hk3 (Left.same h3 (hw1.setCell (Nat.le_refl _) _))⟩
  · have hB' : inB (flyL st.L dd).length i = false := by simpa using hB
    rw [outS, if_neg hB, hB']
    have HB := hid hB'
    clear hB hB' h hL hS
    go_enter Try.func16, Try.ntmps16
    go_wp2_with (go_at_call 12; ((with_reducible refine Ht.out.mono ?_); rintro e w1 ⟨rfl, hL1⟩; rw [HB.out]))
    go_ret2
    exact ⟨rfl, hL1⟩

end Go.Proofs.Ytfifoikphhjomaa.Cb
