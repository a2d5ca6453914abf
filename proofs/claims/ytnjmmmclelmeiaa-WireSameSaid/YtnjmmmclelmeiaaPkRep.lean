/- What bytes.Repeat returns of one byte and a small count; it lies in new memory. -/
import Derived.Test.YtnjmmmclelmeiaaPkRun
import Derived.Lib.MakeNoZero
import Derived.Laws.CopyOwn
import Derived.Deep.RegionLaw
namespace Go.Proofs.Ytnjmmmclelmeiaa.Pk
open Go.RowKit Go.Proofs.Ytnjmmmclelmeiaa.Fx

theorem mul64_c (n : Nat) (w : World) (hn : n ≤ 4096) :
    Calls Try.prog 71 #[.int .u64 1, .int .u64 (n : Int)] w fun e w' => e = .returned (.tuple #[.int .u64 0, .int .u64 (n : Int)]) ∧ w = w' := by
  have ha : bits .and .u64 (n : Int) 4294967295 = (n : Int) := by
    rw [u64_and _ _ (by omega) (by omega) (by omega) (by omega)]
    have := Nat.and_two_pow_sub_one_eq_mod n 32
    rw [show (4294967295 : Int).toNat = 2 ^ 32 - 1 by decide, Int.toNat_natCast, this]
    omega
  have ha1 : bits .and .u64 1 4294967295 = 1 := by decide
  have ha0 : bits .and .u64 0 4294967295 = 0 := by decide
  have hd : (n : Int) / 4294967296 = 0 := by omega
  go_enter Try.func71, Try.ntmps71
  go_wp2
  go_ret2
  exact ⟨rfl, rfl⟩

theorem mul_c (n : Nat) (w : World) (hn : n ≤ 4096) :
    Calls Try.prog 68 #[.int .u64 1, .int .u64 (n : Int)] w fun e w' => e = .returned (.tuple #[.int .u64 0, .int .u64 (n : Int)]) ∧ w = w' := by
  go_enter Try.func68, Try.ntmps68
  go_wp2_with (go_at_call 71; ((with_reducible refine (mul64_c n _ hn).mono ?_); rintro e w' ⟨rfl, rfl⟩))
  go_ret2
  exact ⟨rfl, rfl⟩

theorem size_byte : (Try.prog.info? 5).map (·.size) = some 1 := by
  have := info_byte
  cases h : Try.prog.info? 5 with
  | none => rw [h] at this; cases this
  | some i => rw [h] at this; simp at this ⊢; exact this.2.1

theorem one_src {W : World} {g : Nat} {u : Value} (h : W.cell? ⟨g, 0, none⟩ = some u) : ∀ j v, [u][j]? = some v → W.cell? ((⟨g, 0, none⟩ : Addr).add j) = some v := by
  intro j v hj
  match j, hj with
  | 0, hj => simp at hj; subst hj; simpa [Addr.add] using h
  | j + 1, hj => simp at hj
theorem one_cell (k : IntKind) (y : Int) : ∀ v ∈ [Value.int k y], v.oneCell' = true := by
  intro v hv
  rw [List.mem_singleton.1 hv]; rfl
theorem one_one (k : IntKind) (y : Int) (n : Nat) : ∀ v ∈ List.replicate n (Value.int k y), v.oneCell' = true := by
  intro v hv
  rw [List.eq_of_mem_replicate hv]; rfl
/-- what lies in a block, when k cells are copied behind its first a. -/
theorem splice_take {α : Type} (cur : List α) (u : α) (a k : Nat) (h : cur.take a = List.replicate a u) : (splice cur a (List.replicate k u)).take (a + k) = List.replicate (a + k) u := by
  unfold splice
  rw [h, ← List.append_assoc, List.replicate_append_replicate, List.take_left' (by simp)]
theorem rep_min {α : Type} {u : α} {m k j : Nat} (h : m = Nat.min k j) : (List.replicate m u).length = Nat.min k j := by rw [List.length_replicate]; exact h
theorem rep_src {W : World} {g N a : Nat} {cur : List Value} {t : TypeId} {u : Value} (hg : W.heap[g]? = some (.cells cur.toArray t (0, 0))) (h : cur.take N = List.replicate N u) (ha : a ≤ N) : ∀ j v, (List.replicate a u)[j]? = some v → W.cell? ((⟨g, 0, none⟩ : Addr).add j) = some v := by
  intro j v hj
  have hja : j < a := by
    have := (List.getElem?_eq_some_iff.1 hj).1
    simpa using this
  have hv : v = u := by
    have := (List.getElem?_eq_some_iff.1 hj).2
    simpa using this.symm
  subst hv
  have hadd : (⟨g, 0, none⟩ : Addr).add j = ⟨g, j, none⟩ := by unfold Addr.add; split <;> simp_all
  rw [hadd, cell_of_row W g j _ t _ hg]
  have h2 : (cur.take N)[j]? = some v := by rw [h, List.getElem?_replicate, if_pos (by omega)]
  rw [List.getElem?_take] at h2
  split at h2
  · simpa using h2
  · cases h2

theorem rep_rd {W : World} {g n : Nat} {cur : List Value} {t : TypeId} {x : UInt8} (hg : W.heap[g]? = some (.cells cur.toArray t (0, 0))) (h : cur.take n = List.replicate n (.int .u8 (x.toNat : Int))) (hn : n ≤ 1073741824) : Rd W (.slice (some ⟨g, 0, none⟩) n n) (List.replicate n x) := by
  refine ⟨_, n, n, rfl, by simp, Nat.le_refl _, by omega, fun _ => ⟨g, 0, rfl, (Array.getElem?_eq_some_iff.1 hg).1, fun j hj => ?_⟩⟩
  rw [List.length_replicate] at hj
  have := rep_src hg h (Nat.le_refl n) j (.int .u8 (x.toNat : Int)) (by rw [List.getElem?_replicate, if_pos hj])
  have hadd : (⟨g, 0, none⟩ : Addr).add j = ⟨g, 0 + j, none⟩ := by unfold Addr.add; split <;> simp_all
  rw [hadd] at this
  rw [this, List.getElem_replicate]

/-- a call that has made a slice that reads as l. -/
def Made (l : List UInt8) (w : World) (e : Ending) (w' : World) : Prop := ∃ v, e = .returned v ∧ Rd w' v l ∧ Below w.heap.size w w'

set_option maxRecDepth 100000 in
set_option maxHeartbeats 2000000 in
theorem repeat_c (x : UInt8) (n g : Nat) (w : World) (hn1 : 1 ≤ n) (hn : n ≤ 4096) (hg : g < w.heap.size) (hcell : w.cell? ⟨g, 0, none⟩ = some (.int .u8 (x.toNat : Int))) :
    Calls Try.prog 67 #[.slice (some ⟨g, 0, none⟩) 1 1, .int .i64 (n : Int)] w (Made (List.replicate n x) w) := by
  obtain ⟨cs, hrunM, hle, hcm⟩ := Lib.run_makeNoZero (P := Try.prog) w #[3] 24 5 Try.underlying24 n (by omega)
  have hcm := hcm (by unfold maxLen; omega)
  unfold maxLen at hcm
  have hcall : (callFunc 69 #[.int .i64 (n : Int)]).run Try.prog w = .ok (.value (.slice (some ⟨w.heap.size, 0, none⟩) n cs.size)) ((w.alloc (.cells cs 5)).drewN 2) := by
    rw [run_callFunc_extern Try.func69 (by kernel_rfl) (by kernel_rfl) (by kernel_rfl) (e := Extern.BytealgMakeNoZero.makeNoZero #[3] #[24]) (by kernel_rfl), hrunM]
    rfl
  clear hrunM
  have i0 : (0 : Int) ≤ (n : Int) := by omega
  have i1 : (n : Int) ≤ (cs.size : Int) := by omega
  have hB0 : Below w.heap.size w ((w.alloc (.cells cs 5)).drewN 2) := ⟨rfl, rfl, rfl, by simp, fun k hk => heap_alloc_old w _ hk⟩
  have hc2 : ((w.alloc (.cells cs 5)).drewN 2).cell? ⟨g, 0, none⟩ = some (.int .u8 (x.toNat : Int)) := (hB0.cell (p := ⟨g, 0, none⟩) hg).trans hcell
  have hg0 : ((w.alloc (.cells cs 5)).drewN 2).heap[w.heap.size]? = some (.cells cs.toList.toArray 5 (0, 0)) := by rw [Array.toArray_toList]; exact heap_alloc_new w _
  have HC := hid hc2
  have HG := hid hg0
  clear hc2 hg0 hcell
  go_enter Try.func67, Try.ntmps67
  go_wp2_with (first
    | (go_at_call 68; ((with_reducible refine (mul_c n _ hn).mono ?_); rintro e w' ⟨rfl, rfl⟩))
    | ((with_reducible refine wpList_copy_splice rfl (.tmp 58) (.tmp 59) 24 24 rfl 5 Try.underlying24 size_byte (some ⟨w.heap.size, 0, none⟩) (some ⟨g, 0, none⟩) n n 1 1 rfl rfl w.heap.size 0 cs.toList 5 HG.out [.int .u8 (x.toNat : Int)] ?q1 ?q2 ?q3 (one_cell .u8 (x.toNat : Int)) w.heap.size w hB0 (Nat.le_refl _) ?_); (case q1 => (show 1 = min 1 n; omega)); (case q2 => exact (fun _ => ⟨rfl, ⟨g, 0, none⟩, rfl, one_src HC.out⟩)); (case q3 => (show 0 + 1 ≤ cs.toList.length; rw [Array.length_toList]; omega)); intro w1 hg1 hb1))
  have ht1 : Hid ((splice cs.toList 0 [Value.int .u8 (x.toNat : Int)]).take 1 = List.replicate 1 (.int .u8 (x.toNat : Int))) := splice_take cs.toList (.int .u8 (x.toNat : Int)) 0 1 (by simp)
  have hl1 : Hid ((splice cs.toList 0 [Value.int .u8 (x.toNat : Int)]).length = cs.size) := by
    have := length_splice cs.toList 0 [Value.int .u8 (x.toNat : Int)] (by simp; omega)
    rw [Array.length_toList] at this
    exact this
  go_loopw [10] (fun i wr => ∃ (k : Nat) (cur : List Value), 1 ≤ k ∧ k ≤ n ∧ i = .int .i64 k ∧ Hid (wr.heap[w.heap.size]? = some (.cells cur.toArray 5 (0, 0))) ∧ Hid (cur.length = cs.size) ∧ Hid (cur.take k = List.replicate k (.int .u8 (x.toNat : Int))) ∧ Below w.heap.size w wr) (fun i _ => n - (intOf i).toNat)
  case atStart => exact ⟨1, _, Nat.le_refl _, hn1, rfl, hg1, hl1, ht1, hb1⟩
  case round =>
    obtain ⟨k, cur, hk1, hkn, rfl, hgr, hlr, htr, hbr⟩ := hrel
    by_cases hlt : k < n
    · have hne : ¬ n = k := by omega
      have k0 : (0 : Int) ≤ (k : Int) := by omega
      have k1 : (k : Int) ≤ (n : Int) := by omega
      obtain ⟨m, hm, hm1, hm2, hm3⟩ : ∃ m, m = Nat.min k (n - k) ∧ 1 ≤ m ∧ k + m ≤ n ∧ m ≤ k := ⟨_, rfl, by show 1 ≤ min k (n - k); omega, by show k + min k (n - k) ≤ n; omega, by show min k (n - k) ≤ k; omega⟩
      have HM := hid hm
      clear hm
      have hfit : k + (List.replicate m (Value.int .u8 (x.toNat : Int))).length ≤ cur.length := by rw [List.length_replicate, hlr.out]; omega
      have HF := hid hfit
      have HT := hid (splice_take cur (.int .u8 (x.toNat : Int)) k m htr.out)
      have HL := hid (length_splice cur k _ hfit)
      clear hfit
      go_wp2_with fail
      go_region_law ((refine step_copy_splice rfl (.tmp 70) (.tmp 73) 24 24 rfl 5 Try.underlying24 size_byte (some ⟨w.heap.size, k, none⟩) (some ⟨w.heap.size, 0, none⟩) (n - k) (n - k) k n (by simp [Act.eval, Act.put]) (by simp [Act.eval, Act.put]) w.heap.size k cur 5 hgr.out (List.replicate m (.int .u8 (x.toNat : Int))) (rep_min HM.out) (fun _ => ⟨rfl, ⟨w.heap.size, 0, none⟩, rfl, rep_src hgr.out htr.out hm3⟩) HF.out (one_one .u8 (x.toNat : Int) m) w.heap.size w ⟨hbr.os, hbr.tape, hbr.output, hbr.size, hbr.block⟩ (Nat.le_refl _) ?_); intro w4 hg4 hb4)
      rw [IntWalk.i64_in _ (by omega)]
      go_simp
      go_roundw
      case rel => ((repeat apply Exists.intro); exact ⟨⟨k + m, _, by omega, by omega, by go_num, hg4, HL.out.trans hlr.out, HT, hb4⟩, rfl⟩)
      case measure => simp [intOf]; omega
    · obtain rfl : k = n := by omega
      have hrd := rep_rd (x := x) (n := k) hgr.out htr.out (by omega)
      go_wp2_with fail
      go_ret
      exact ⟨_, rfl, hrd, hbr⟩
end Go.Proofs.Ytnjmmmclelmeiaa.Pk
