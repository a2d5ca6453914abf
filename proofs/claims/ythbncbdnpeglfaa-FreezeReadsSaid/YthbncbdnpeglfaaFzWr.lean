/- What a writer and a reader make of a number (layer 13, freeze). -/
import Derived.Test.YthbncbdnpeglfaaFzBl
import Derived.Test.YthbncbdnpeglfaaFzMath
import Derived.Deep.DeepCutAuto
import Derived.Deep.RegionWith
namespace Go.Proofs.Ythbncbdnpeglfaa.Fz
open Go.RowKit
open Go.Proofs.Ythbncbdnpeglfaa.Ev (At)
open Go.Proofs.Ythbncbdnpeglfaa.Gm (hid)
open Go.Proofs.Ythbncbdnpeglfaa.Pk (numL rdN sgnN unsN rd_num num_lt num_pos rd_back rd_bd uns_sgn sgn_uns sgn_bd uns_bd rdV rsV read_c readS_c number_c signed_c num_len10)
set_option linter.unusedVariables false

theorem at_far {w : World} {b c j : Nat} {cs : Array Value} {T : TypeId} (h : At w b cs T) (hn : b ≠ c) (v : Value) : At (w.setCell ⟨c, j, none⟩ v) b cs T := by
  unfold At at h ⊢
  rw [Below.heap_setCell _ _ _ _ hn]
  exact h
theorem owns_below {B : Nat} {e : TypeId} {k n : Nat} {v : Value} {xs : List Value} {w w' : World} (h : w.ownsRowF B e k v n xs) (hb : Below w.heap.size w w') : w'.ownsRowF B e k v n xs := by
  refine ⟨h.1, ?_⟩
  rcases h.2 with hn | ⟨g, cap, cur, fz, rfl, hB, hgg, rest⟩
  · exact .inl hn
  · exact .inr ⟨g, cap, cur, fz, rfl, hB, (hb.block g (Array.getElem?_eq_some_iff.1 hgg).1).trans hgg, rest⟩
theorem bat_below {B b : Nat} {p : Value} {bs : List Value} {w w' : World} (h : Lib.BuilderAtF 58 5 B b p bs w) (hb : Below w.heap.size w w') : Lib.BuilderAtF 58 5 B b p bs w' := by
  obtain ⟨hB, v, hbk, hown, hne⟩ := h
  exact ⟨hB, v, (hb.block b (Array.getElem?_eq_some_iff.1 hbk).1).trans hbk, owns_below hown hb, hne⟩
theorem bld_below {B b : Nat} {l : List UInt8} {w w' : World} (h : Bld B b l w) (hb : Below w.heap.size w w') : Bld B b l w' := h.imp (fun h => bat_below h hb) (fun h => bat_below h hb)
theorem owns_far {B : Nat} {k n : Nat} {v : Value} {xs : List Value} {w : World} {c : Nat} {cs : Array Value} {T : TypeId} (h : w.ownsRowF B 5 k v n xs) (hc : At w c cs T) (hT : T ≠ 5) (j : Nat) (u : Value) : (w.setCell ⟨c, j, none⟩ u).ownsRowF B 5 k v n xs := by
  refine ⟨h.1, ?_⟩
  rcases h.2 with hn | ⟨g, cap, cur, fz, rfl, hB, hgg, rest⟩
  · exact .inl hn
  · refine .inr ⟨g, cap, cur, fz, rfl, hB, ?_, rest⟩
    have hne : g ≠ c := by
      intro e
      subst e
      have h2 : w.heap[g]? = some (.cells cs T (0, 0)) := hc
      have := h2.symm.trans hgg
      simp at this
      exact hT this.2.1
    rw [Below.heap_setCell _ _ _ _ hne]
    exact hgg
theorem bat_far {B b : Nat} {p : Value} {bs : List Value} {w : World} {c : Nat} {cs : Array Value} {T : TypeId} (h : Lib.BuilderAtF 58 5 B b p bs w) (hc : At w c cs T) (hT : T ≠ 5) (hn : b ≠ c) (j : Nat) (u : Value) : Lib.BuilderAtF 58 5 B b p bs (w.setCell ⟨c, j, none⟩ u) := by
  obtain ⟨hB, v, hbk, hown, hne⟩ := h
  refine ⟨hB, v, ?_, owns_far hown hc hT j u, hne⟩
  rw [Below.heap_setCell _ _ _ _ hn]
  exact hbk
theorem bld_far {B b : Nat} {l : List UInt8} {w : World} {c : Nat} {cs : Array Value} {T : TypeId} (h : Bld B b l w) (hc : At w c cs T) (hT : T ≠ 5) (hn : b ≠ c) (j : Nat) (u : Value) : Bld B b l (w.setCell ⟨c, j, none⟩ u) := h.imp (fun h => bat_far h hc hT hn j u) (fun h => bat_far h hc hT hn j u)

theorem kept_below {b : Nat} {w w1 w2 : World} (h : Kept b w w1) (hb : Below w1.heap.size w1 w2) : Kept b w w2 := fun k o hk hne hcs =>
  (hb.block k (Array.getElem?_eq_some_iff.1 (h k o hk hne hcs)).1).trans (h k o hk hne hcs)

theorem wnum_c (B b : Nat) (l : List UInt8) (n : Nat) (w : World) (h : Bld B b l w) (hn : n < 18446744073709551616) (hlen : l.length ≤ 1073741824) (hB : B ≤ w.heap.size) :
    Calls Try.prog 72 #[.pointer (some ⟨b, 0, none⟩), .int .u64 (n : Int)] w fun e w' => e = .returned (.int .u64 (n : Int)) ∧ Bld B b (l ++ numL n) w' ∧ Below B w w' ∧ Kept b w w' := by
  have HN := hid (num_len10 n hn)
  have H := hid h
  have HL := hid hlen
  have HW := fun W => number_c n W hn
  clear hn h hlen
  go_enter Try.func72, Try.ntmps72
  go_upto_region 1 with fail
  have HD : Hid (Bld B b l w.drew) := hid (bld_below H.out (Below.drew (Below.refl _ w)))
  have HBD : Hid (Below B w w.drew) := hid (Below.drew (Below.refl _ w))
  have HKD : Hid (Kept b w w.drew) := hid ((Lib.OthersKept.refl _ _ w).drew)
  go_region_with (first
    | (go_at_call 76; ((with_reducible refine (HW _).mono ?_); rintro e w1 ⟨rfl, g1⟩; have H1 := hid (bld_below HD.out g1); have HB1 := hid (show B ≤ w1.heap.size from Nat.le_trans hB g1.size)))
    | (go_at_call 75; ((with_reducible refine (write_c B b l (numL n) _ H1.out (by have := HN.out; have := HL.out; omega) HB1.out).mono ?_); rintro e w2 ⟨rfl, h2, g2, k2⟩)))
  all_goals
    go_wp2_with fail
    go_ret
    exact ⟨rfl, h2, (HBD.out.trans (g1.mono hB)).trans g2, (kept_below HKD.out g1).trans k2⟩

theorem wsgn_c (B b : Nat) (l : List UInt8) (n : Int) (w : World) (h : Bld B b l w) (h0 : -9223372036854775808 ≤ n) (h1 : n ≤ 9223372036854775807) (hlen : l.length ≤ 1073741824) (hB : B ≤ w.heap.size) :
    Calls Try.prog 73 #[.pointer (some ⟨b, 0, none⟩), .int .i64 n] w fun e w' => e = .returned (.int .i64 n) ∧ Bld B b (l ++ numL (sgnN n)) w' ∧ Below B w w' ∧ Kept b w w' := by
  have HN := hid (num_len10 (sgnN n) (sgn_bd n h0 h1))
  have H := hid h
  have HL := hid hlen
  have HW := fun W => signed_c n W h0 h1
  generalize numL (sgnN n) = k at HN HW ⊢
  clear h0 h1 h hlen
  go_enter Try.func73, Try.ntmps73
  go_upto_region 1 with fail
  have HD : Hid (Bld B b l w.drew) := hid (bld_below H.out (Below.drew (Below.refl _ w)))
  have HBD : Hid (Below B w w.drew) := hid (Below.drew (Below.refl _ w))
  have HKD : Hid (Kept b w w.drew) := hid ((Lib.OthersKept.refl _ _ w).drew)
  go_region_with (first
    | (go_at_call 77; ((with_reducible refine (HW _).mono ?_); rintro e w1 ⟨rfl, g1⟩; have H1 := hid (bld_below HD.out g1); have HB1 := hid (show B ≤ w1.heap.size from Nat.le_trans hB g1.size)))
    | (go_at_call 75; ((with_reducible refine (write_c B b l k _ H1.out (by have := HN.out; have := HL.out; omega) HB1.out).mono ?_); rintro e w2 ⟨rfl, h2, g2, k2⟩)))
  all_goals
    go_wp2_with fail
    go_ret
    exact ⟨rfl, h2, (HBD.out.trans (g1.mono hB)).trans g2, (kept_below HKD.out g1).trans k2⟩

theorem wbits_c (B b : Nat) (l : List UInt8) (c : UInt8) (w : World) (h : Bld B b l w) (hlen : l.length ≤ 1073741824) (hB : B ≤ w.heap.size) :
    Calls Try.prog 71 #[.pointer (some ⟨b, 0, none⟩), .int .u8 c.toNat] w fun e w' => e = .returned (.int .u8 c.toNat) ∧ Bld B b (l ++ [c]) w' ∧ Below B w w' ∧ Kept b w w' := by
  have H := hid h
  have HL := hid hlen
  clear h hlen
  go_enter Try.func71, Try.ntmps71
  go_wp2_with (go_at_call 74; ((with_reducible refine (wbyte_c B b l c _ H.out (by have := HL.out; omega) hB).mono ?_); rintro e w2 ⟨rfl, h2, g2, k2⟩))
  go_ret
  exact ⟨rfl, h2, g2, k2⟩

theorem rnum_c (q : Nat) (s : ByteArray) (x : Int) (w : World) (h : At w q #[.string s] 70) (hs : s.size ≤ 1073741824) :
    Calls Try.prog 82 #[.pointer (some ⟨q, 0, none⟩), .int .u64 x] w fun e w' => e = .returned (.int .u64 ((rdN s.data.toList).1 : Int)) ∧ w' = w.setCell ⟨q, 0, none⟩ (.string (s.extract (rdN s.data.toList).2.1 s.size)) := by
  have hm := hid (read_c s w (by unfold maxLen; omega))
  obtain ⟨_, hb, _⟩ := rd_bd s.data.toList
  rw [← Lib.size_eq] at hb
  generalize rdN s.data.toList = r at hm hb ⊢
  obtain ⟨a, k, c⟩ := r
  dsimp only at hb ⊢
  have e2 : rdV (a, k, c) = .tuple #[.int .u64 (a : Int), .int .i64 (k : Int), .int .i64 (c : Int)] := rfl
  rw [e2] at hm
  clear e2
  have c0 := At.one h
  have f0 := At.frozen h 0
  go_enter Try.func82, Try.ntmps82
  go_wp2_with (go_at_call 84; ((with_reducible refine hm.out.mono ?_); rintro e w' ⟨rfl, rfl⟩))
  go_ret
  exact ⟨rfl, rfl⟩

theorem rsgn_c (q : Nat) (s : ByteArray) (x : Int) (w : World) (h : At w q #[.string s] 70) (hs : s.size ≤ 1073741824) :
    Calls Try.prog 83 #[.pointer (some ⟨q, 0, none⟩), .int .i64 x] w fun e w' => e = .returned (.int .i64 (unsN (rdN s.data.toList).1)) ∧ w' = w.setCell ⟨q, 0, none⟩ (.string (s.extract (rdN s.data.toList).2.1 s.size)) := by
  have hm := hid (readS_c s w (by unfold maxLen; omega))
  obtain ⟨_, hb, _⟩ := rd_bd s.data.toList
  rw [← Lib.size_eq] at hb
  generalize rdN s.data.toList = r at hm hb ⊢
  obtain ⟨a, k, c⟩ := r
  dsimp only at hb ⊢
  have e2 : rsV (a, k, c) = .tuple #[.int .i64 (unsN a), .int .i64 (k : Int), .int .i64 (c : Int)] := rfl
  rw [e2] at hm
  clear e2
  have c0 := At.one h
  have f0 := At.frozen h 0
  go_enter Try.func83, Try.ntmps83
  go_wp2_with (go_at_call 85; ((with_reducible refine hm.out.mono ?_); rintro e w' ⟨rfl, rfl⟩))
  go_ret
  exact ⟨rfl, rfl⟩

theorem rbits_c (q : Nat) (s : ByteArray) (x : Int) (w : World) (h : At w q #[.string s] 70) :
    Calls Try.prog 81 #[.pointer (some ⟨q, 0, none⟩), .int .u8 x] w fun e w' => (s.size = 0 ∧ e = .returned (.int .u8 0) ∧ w' = w) ∨ (∃ h0 : 0 < s.size, e = .returned (.int .u8 (s[0].toNat : Int)) ∧ w' = w.setCell ⟨q, 0, none⟩ (.string (s.extract 1 s.size))) := by
  have c0 := At.one h
  have f0 := At.frozen h 0
  by_cases h0 : s.size = 0
  · have he : s = ⟨#[]⟩ := ByteArray.ext (Array.eq_empty_of_size_eq_zero h0)
    subst he
    go_enter Try.func81, Try.ntmps81
    go_wp2_with fail
    go_ret
    exact .inl ⟨rfl, rfl, rfl⟩
  · have h1 : 0 < s.size := by omega
    have hie : s.toList.isEmpty = false := by
      rw [ByteArray.toList_eq]
      cases hl : s.data.toList with
      | nil => exact absurd (by rw [Lib.size_eq, hl]; rfl) h0
      | cons _ _ => rfl
    go_enter Try.func81, Try.ntmps81
    go_wp2_with fail
    go_ret
    exact .inr ⟨h1, rfl, rfl⟩

end Go.Proofs.Ythbncbdnpeglfaa.Fz
