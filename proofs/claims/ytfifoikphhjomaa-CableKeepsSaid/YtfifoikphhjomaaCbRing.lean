/- What rings of strings (layer 4) return, and what they leave of the memory: New, Len, Room, At, Push, Take; slices.Delete of strings. -/
import Derived.Test.YtfifoikphhjomaaRgCalls
import Derived.Test.YtfifoikphhjomaaRgMore
import Derived.Test.YtfifoikphhjomaaCbMath
namespace Go.Proofs.Ytfifoikphhjomaa.Cb
open Go.RowKit Go.Proofs.Ytfifoikphhjomaa.Rg
set_option linter.unusedVariables false

theorem info_str : (Try.prog.info? 9).map (fun i => (i.zero, i.size, i.bytes)) = some (some (.string ⟨#[]⟩), 1, 16) := by kernel_rfl

/-- a ring of strings of that size with the things l. -/
abbrev SRing (w : World) (n₀ b size : Nat) (ao : Option Addr) (cap : Nat) (l : List ByteArray) : Prop := Held w n₀ 61 9 1 b [.int .i64 size] ao l.length cap (strs l)

theorem snew_c (n : Nat) (h : 1 ≤ n ∧ n ≤ 4096) (w : World) :
    Calls Try.prog 17 #[.int .i64 n] w fun e w' => e = .returned (.tuple #[.pointer (some ⟨w.heap.size, 0, none⟩), .int .i64 0]) ∧ w' = w.alloc (.cells #[.int .i64 n, .slice none 0 0] 61) := by
  have s := hid (size_yes n (by omega))
  go_enter Try.func17, Try.ntmps17
  go_wp2_with (go_at_call 30; ((with_reducible refine (isSize_c _ _).mono ?_); rintro e w' ⟨rfl, rfl⟩; rw [s.out]))
  go_ret2
  exact ⟨rfl, rfl⟩

theorem slen_nil (w : World) :
    Calls Try.prog 23 #[.pointer none] w fun e w' => e = .returned (.int .i64 0) ∧ w = w' := by
  go_enter Try.func23, Try.ntmps23
  go_wp2
  go_ret
  exact ⟨rfl, rfl⟩

theorem slen_c (b n cap : Nat) (ao : Option Addr) (w : World) (h : w.cell? ⟨b, 1, none⟩ = some (.slice ao n cap)) :
    Calls Try.prog 23 #[.pointer (some ⟨b, 0, none⟩)] w fun e w' => e = .returned (.int .i64 n) ∧ w = w' := by
  go_enter Try.func23, Try.ntmps23
  go_wp2
  go_ret
  exact ⟨rfl, rfl⟩

theorem sroom_c (b n cap size : Nat) (ao : Option Addr) (w : World) (hs : size ≤ 4096) (hn : n ≤ size) (c0 : w.cell? ⟨b, 0, none⟩ = some (.int .i64 size)) (c1 : w.cell? ⟨b, 1, none⟩ = some (.slice ao n cap)) :
    Calls Try.prog 31 #[.pointer (some ⟨b, 0, none⟩)] w fun e w' => e = .returned (.int .i64 ((size : Int) - n)) ∧ ∃ q, w' = w.drewN q := by
  have hw : IntKind.i64.wrap ((size : Int) - n) = (size : Int) - n := IntWalk.i64_in _ (by omega)
  go_enter Try.func31, Try.ntmps31
  go_wp2_with fail
  go_quiet (fail)
  go_wp2
  go_ret
  exact ⟨rfl, _, rfl⟩

theorem sat_nil (i : Int) (w : World) :
    Calls Try.prog 28 #[.pointer none, .int .i64 i] w fun e w' => e = .returned (.tuple #[.string ⟨#[]⟩, .bool false]) ∧ w = w' := by
  by_cases h : i < 0
  · go_enter Try.func28, Try.ntmps28
    go_wp2_with fail
    go_ret2
    exact ⟨rfl, rfl⟩
  · go_enter Try.func28, Try.ntmps28
    go_wp2_with (go_at_call 23; ((with_reducible refine (slen_nil _).mono ?_); rintro e w' ⟨rfl, rfl⟩))
    go_ret2
    exact ⟨rfl, rfl⟩

theorem sat_c (i : Int) (n₀ b size cap : Nat) (ao : Option Addr) (l : List ByteArray) (w : World) (h : SRing w n₀ b size ao cap l) (hl : l.length ≤ 4096) :
    Calls Try.prog 28 #[.pointer (some ⟨b, 0, none⟩), .int .i64 i] w fun e w' => e = .returned (.tuple #[.string (atS l i), .bool (inB l.length i)]) ∧ w = w' := by
  have c1 : w.cell? ⟨b, 1, none⟩ = some (.slice ao l.length cap) := by simpa using h.cell 1
  by_cases h0 : i < 0
  · rw [atS_no (in_neg h0), in_neg h0]
    clear c1
    go_enter Try.func28, Try.ntmps28
    go_wp2_with fail
    go_ret2
    exact ⟨rfl, rfl⟩
  · by_cases h1 : (l.length : Int) ≤ i
    · rw [atS_no (in_far h1), in_far h1]
      go_enter Try.func28, Try.ntmps28
      go_wp2_with (go_at_call 23; ((with_reducible refine (slen_c _ _ _ _ _ c1).mono ?_); rintro e w' ⟨rfl, rfl⟩))
      go_ret2
      exact ⟨rfl, rfl⟩
    · obtain ⟨k, rfl⟩ := Int.eq_ofNat_of_zero_le (show 0 ≤ i by omega)
      have hk : k < l.length := by omega
      rw [atS_in hk, in_in hk]
      obtain ⟨g, rfl, hc⟩ := srow_cell h.row k hk
      generalize l[k]?.getD ⟨#[]⟩ = y at hc ⊢
      go_enter Try.func28, Try.ntmps28
      go_wp2_with (go_at_call 23; ((with_reducible refine (slen_c _ _ _ _ _ c1).mono ?_); rintro e w' ⟨rfl, rfl⟩))
      go_ret2
      exact ⟨rfl, rfl⟩

theorem spush_full (x : ByteArray) (n₀ b size cap : Nat) (ao : Option Addr) (l : List ByteArray) (w : World) (h : SRing w n₀ b size ao cap l) (hs : size ≤ 4096) (hl : l.length = size) :
    Calls Try.prog 25 #[.pointer (some ⟨b, 0, none⟩), .string x] w fun e w' => e = .returned (.int .i64 8) ∧ ∃ q, w' = w.drewN q := by
  have c0 : w.cell? ⟨b, 0, none⟩ = some (.int .i64 size) := by simpa using h.cell 0
  have c1 : w.cell? ⟨b, 1, none⟩ = some (.slice ao l.length cap) := by simpa using h.cell 1
  have h0 : ((size : Int) - (l.length : Int)) = 0 := by omega
  have H0 := hid h0
  have hl' : l.length ≤ size := by omega
  clear hl h0
  go_enter Try.func25, Try.ntmps25
  go_wp2_with (go_at_call 31; ((with_reducible refine (sroom_c _ _ _ _ _ _ hs hl' c0 c1).mono ?_); rintro e w' ⟨rfl, q, rfl⟩; rw [H0.out]))
  go_ret
  exact ⟨rfl, _, rfl⟩

theorem spush_c (x : ByteArray) (n₀ b size cap : Nat) (ao : Option Addr) (l : List ByteArray) (w : World) (h : SRing w n₀ b size ao cap l) (hs : size ≤ 4096) (hl : l.length < size) (hn : n₀ ≤ w.heap.size) :
    Calls Try.prog 25 #[.pointer (some ⟨b, 0, none⟩), .string x] w fun e w' => e = .returned (.int .i64 0) ∧
      ∃ ao' cap', SRing w' n₀ b size ao' cap' (l ++ [x]) ∧ Near ao ao' w.heap.size ∧ Keeps (Foot b ao) w w' := by
  have c0 : w.cell? ⟨b, 0, none⟩ = some (.int .i64 size) := by simpa using h.cell 0
  have c1 : w.cell? ⟨b, 1, none⟩ = some (.slice ao l.length cap) := by simpa using h.cell 1
  have h0 : (((size : Int) - (l.length : Int)) == 0) = false := by simp; omega
  have hl' : l.length ≤ size := by omega
  have hb := h.lt
  obtain ⟨i0, hi, hz0, hz1, hz2⟩ := info_parts info_str
  go_enter Try.func25, Try.ntmps25
  go_wp2_with (first
    | (go_at_call 31; ((with_reducible refine (sroom_c _ _ _ _ _ _ hs hl' c0 c1).mono ?_); rintro e w' ⟨rfl, q, rfl⟩))
    | (at_builtin; refine wpList_append_own_at _ rfl _ _ 29 rfl n₀ 9 i0 (.string ⟨#[]⟩) 1 16 Try.underlying29 hi hz0 hz1 hz2 rfl (by decide) _ _ _ rfl ((h.drewN _).row.alloc _) ⟨w.heap.size, 0, none⟩ 1 1 [.string x] rfl rfl (cell_one_new _ _ _) (by simp [Value.oneCell']) (by unfold maxLen; omega) (by omega) (by simp; omega) ?_; intro v' w1 hown hg _ hat; obtain ⟨hk, hblk, ao', cap', rfl, hnear⟩ := push_step h (by decide) hown hg hat; have c2 : w1.cell? ⟨b, 1, none⟩ = some (.slice ao l.length cap) := (World.cell?_of_block hblk).trans c1; have f2 : w1.frozen? ⟨b, 1, none⟩ = false := (World.frozen?_of_block hblk).trans (h.frozen 1)))
  go_ret
  obtain ⟨hh, hk2⟩ := h.stored (by decide) hk hblk hown
  refine ⟨rfl, ao', cap', ?_, hnear, hk2⟩
  have e1 : (l ++ [x]).length = l.length + 1 := by simp
  show Held _ _ _ _ _ _ _ _ _ _ _
  rw [e1, strs_snoc]
  exact hh

theorem sdelete_c (n₀ g n cap i j : Nat) (xs : List Value) (w : World) (h : w.ownsRow n₀ 9 1 (.slice (some ⟨g, 0, none⟩) n cap) n xs) (h1 : ∀ u ∈ xs, u.oneCell' = true) (hij : i < j) (hj : j ≤ n) (hn : n ≤ 4096) :
    Calls Try.prog 33 #[.slice (some ⟨g, 0, none⟩) n cap, .int .i64 i, .int .i64 j] w fun e w' => e = .returned (.slice (some ⟨g, 0, none⟩) (i + (n - j)) cap) ∧
      w'.ownsRow n₀ 9 1 (.slice (some ⟨g, 0, none⟩) (i + (n - j)) cap) (i + (n - j)) (xs.take i ++ xs.drop j) ∧ w.grownBy w' (some g) := by
  obtain ⟨i0, hi0, hz0, hz1, hz2⟩ := info_parts info_str
  obtain ⟨hcap, hm⟩ : n ≤ cap ∧ cap ≤ 9223372036854775807 := by
    rcases h.2 with ⟨h', _⟩ | ⟨_, _, _, h', _, _, h2, h3, _⟩
    · simp at h'
    · cases h'; exact ⟨h2, by simpa [maxLen] using h3⟩
  obtain ⟨cur, hg⟩ : ∃ cur, w.heap[g]? = some (.cells cur 9 (0, 0)) := by
    rcases h.2 with ⟨h', _⟩ | ⟨_, _, cur, h', _, hh, _⟩
    · simp at h'
    · cases h'; exact ⟨cur, hh⟩
  obtain ⟨news, hnews⟩ : ∃ news, news = xs.drop j := ⟨_, rfl⟩
  have hlen : news.length = n - j := by rw [hnews, List.length_drop, h.1]; omega
  obtain ⟨A, hA, hsrc⟩ : ∃ A : Addr, (if cap = j then some (⟨g, 0, none⟩ : Addr) else some ⟨g, j, none⟩) = some A ∧ Hid (∀ t u, news[t]? = some u → w.drew.cell? (A.add t) = some u) := by
    by_cases hc : cap = j
    · refine ⟨⟨g, 0, none⟩, by simp [hc], fun t u hu => ?_⟩
      have h0 : news.length = 0 := by rw [hlen]; omega
      rw [List.length_eq_zero_iff.1 h0] at hu
      simp at hu
    · refine ⟨⟨g, j, none⟩, by simp [hc], fun t u hu => ?_⟩
      rw [Addr.add_lit]
      exact row_from h j t u (by rw [← hnews]; exact hu)
  have s1 : Hid (news.length = (n - j) * 1) := by rw [Nat.mul_one]; exact hlen
  have s2 : Hid (∀ u ∈ news, u.oneCell' = true) := fun u hu => h1 u (List.mem_of_mem_drop (by rw [← hnews]; exact hu))
  have s3 : Hid (∀ t, t < news.length → (w.drew.cell? ⟨g, 0 + i * 1 + t, none⟩).isSome = true ∧ w.drew.frozen? ⟨g, 0 + i * 1 + t, none⟩ = false) := by
    intro t ht
    exact row_there h (0 + i * 1 + t) (by rw [hlen] at ht; omega)
  obtain ⟨W1, hW1⟩ : ∃ W1, W1 = w.drew.setCells g (0 + i * 1) news := ⟨_, rfl⟩
  have hcl : ∀ ty, (Builtin.clear_ #[29] ty #[.slice (some ⟨g, i + (n - j), none⟩) (n - (i + (n - j))) (cap - (i + (n - j)))]).run Try.prog W1 = .ok (.tuple #[]) (W1.setCells g (i + (n - j)) (List.replicate (n - (i + (n - j))) (.string ⟨#[]⟩))) := by
    intro ty
    have ht : ∀ k, k < n - (i + (n - j)) → (W1.cell? ⟨g, i + (n - j) + k, none⟩).isSome = true ∧ W1.frozen? ⟨g, i + (n - j) + k, none⟩ = false := by
      intro k hk
      rw [hW1]
      exact there_set (w := w.drew) news (0 + i * 1) _ (row_there h _ (by omega)) cur hg
    refine run_clear_k W1 _ _ ty (.string ⟨#[]⟩) _ Try.underlying29 Try.zeroValue9 g (i + (n - j)) _ _ (by omega) (szeros _) (by intro v hv; rw [List.eq_of_mem_replicate hv]; rfl) ?_ ?_
    · intro k hk; exact (ht k (by simpa using hk)).1
    · intro k hk; exact (ht k (by simpa using hk)).2
  have hW : Hid (W1 = w.drew.setCells g (0 + i * 1) news) := hW1
  have hN : Hid (news = xs.drop j) := hnews
  have hO := hid (del_own h (Nat.le_of_lt hij) hj 1 (List.replicate (n - (i + (n - j))) (.string ⟨#[]⟩)) (by simp; omega))
  have hic : i ≤ cap := by omega
  have hjc : j ≤ cap := by omega
  clear hW1 hnews hlen hg h h1
  go_enter Try.func33, Try.ntmps33
  go_wp2_with fail
  go_region_law (refine step_append_room rfl (.tmp 22) (.tmp 25) 29 rfl 9 i0 1 Try.underlying29 hi0 hz1 g 0 i cap (by simp [Act.eval, Act.put]) A (n - j) (cap - j) news (by simp [Act.eval, Act.put]) s1.out hsrc.out s2.out (by omega) s3.out ?_; rw [← hW.out])
  go_wp2
  go_ret
  have := hO.out
  simp only [Nat.mul_one] at this
  rw [hW.out, hN.out, Nat.mul_one, Nat.zero_add]
  exact ⟨rfl, this⟩

theorem stake_nil (i : Int) (w : World) :
    Calls Try.prog 27 #[.pointer none, .int .i64 i] w fun e w' => e = .returned (.tuple #[.string ⟨#[]⟩, .bool false]) ∧ w = w' := by
  go_enter Try.func27, Try.ntmps27
  go_wp2_with (go_at_call 28; ((with_reducible refine (sat_nil _ _).mono ?_); rintro e w' ⟨rfl, rfl⟩))
  go_ret2
  exact ⟨rfl, rfl⟩

theorem stake_c (i : Int) (n₀ b size cap : Nat) (ao : Option Addr) (l : List ByteArray) (w : World) (h : SRing w n₀ b size ao cap l) (hl : l.length ≤ 4096) :
    Calls Try.prog 27 #[.pointer (some ⟨b, 0, none⟩), .int .i64 i] w fun e w' => e = .returned (.tuple #[.string (atS l i), .bool (inB l.length i)]) ∧
      ∃ ao' cap', SRing w' n₀ b size ao' cap' (offL l i) ∧ Near ao ao' w.heap.size ∧ Keeps (Foot b ao) w w' := by
  have c1 : w.cell? ⟨b, 1, none⟩ = some (.slice ao l.length cap) := by simpa using h.cell 1
  by_cases hB : inB l.length i = true
  · obtain ⟨k, rfl, hk⟩ := in_of hB
    obtain ⟨g, rfl, _⟩ := srow_cell h.row k hk
    rw [offL_in hk, hB]
    have HB := hid hB
    have Hd : Hid (Calls Try.prog 33 #[.slice (some ⟨g, 0, none⟩) l.length cap, .int .i64 (k : Int), .int .i64 ((k : Int) + 1)] w fun e w' => e = .returned (.slice (some ⟨g, 0, none⟩) (k + (l.length - (k + 1))) cap) ∧
      w'.ownsRow n₀ 9 1 (.slice (some ⟨g, 0, none⟩) (k + (l.length - (k + 1))) cap) (k + (l.length - (k + 1))) ((strs l).take k ++ (strs l).drop (k + 1)) ∧ w.grownBy w' (some g)) :=
      sdelete_c n₀ g l.length cap k (k + 1) (strs l) w h.row (strs_one l) (Nat.lt_succ_self k) hk hl
    clear hB
    go_enter Try.func27, Try.ntmps27
    go_wp2_with (first
      | (go_at_call 28; ((with_reducible refine (sat_c _ _ _ _ _ _ _ _ h hl).mono ?_); rintro e w' ⟨rfl, rfl⟩; rw [HB.out]))
      | (go_at_call 33; ((with_reducible refine Hd.out.mono ?_); rintro e w1 ⟨rfl, hown, hg⟩; have hblk : w1.heap[b]? = w.heap[b]? := hg.block b h.lt (fun e => h.apart (by decide) _ rfl (by simpa using e.symm)); have c2 : w1.cell? ⟨b, 1, none⟩ = some (.slice (some ⟨g, 0, none⟩) l.length cap) := (World.cell?_of_block hblk).trans c1; have f2 : w1.frozen? ⟨b, 1, none⟩ = false := (World.frozen?_of_block hblk).trans (h.frozen 1))))
    go_ret2
    have hk1 : Keeps (Foot b (some ⟨g, 0, none⟩)) w w1 := (Keeps.refl _ w).grown hg (fun i hi _ => .inr ⟨_, rfl, by simpa using hi.symm⟩)
    obtain ⟨hh, hk2⟩ := h.stored (by decide) hk1 hblk hown
    refine ⟨rfl, _, cap, ?_, Near.refl _ _, hk2⟩
    have e1 : (l.take k ++ l.drop (k + 1)).length = k + (l.length - (k + 1)) := by simp; omega
    have e2 : strs (l.take k ++ l.drop (k + 1)) = (strs l).take k ++ (strs l).drop (k + 1) := by simp [strs]
    show Held _ _ _ _ _ _ _ _ _ _ _
    rw [e1, e2]
    exact hh
  · have hB' : inB l.length i = false := by simpa using hB
    have HB := hid hB'
    rw [offL_no hB', hB']
    have h2 : Calls Try.prog 27 #[.pointer (some ⟨b, 0, none⟩), .int .i64 i] w fun e w' => e = .returned (.tuple #[.string (atS l i), .bool false]) ∧ w = w' := by
      clear hB hB'
      go_enter Try.func27, Try.ntmps27
      go_wp2_with (go_at_call 28; ((with_reducible refine (sat_c _ _ _ _ _ _ _ _ h hl).mono ?_); rintro e w' ⟨rfl, rfl⟩; rw [HB.out]))
      go_ret2
      exact ⟨rfl, rfl⟩
    refine h2.mono ?_
    rintro e w' ⟨he, rfl⟩
    exact ⟨he, ao, cap, h, Near.refl _ _, Keeps.refl _ _⟩

end Go.Proofs.Ytfifoikphhjomaa.Cb
