/- What At, Last, Push, Take and Pop of layer 4's rings return, and what they leave of the memory. -/
/- What slices.Delete returns at a list of ints of the call's own, and what Take and Pop of layer 4's rings return and leave of the memory. -/
import Derived.Test.YtfclnhmijjlhdaaGreatDoorJ14
import Derived.Test.YtfclnhmijjlhdaaGreatDoorJ6
namespace Go.Proofs.YtfclnhmijjlhdaaGreatDoor.Ru
open Rg
open Go.RowKit
set_option linter.unusedVariables false
set_option maxRecDepth 100000

/-- the thing at i, and whether there is one. -/
def atB (l : List Int) (i : Int) : Bool := decide (0 ≤ i) && decide (i < l.length)
def atI (l : List Int) (i : Int) : Int := if atB l i = true then l[i.toNat]?.getD 0 else 0
theorem at_neg {l : List Int} {i : Int} (h : i < 0) : atB l i = false ∧ atI l i = 0 := by
 have : atB l i = false := by simp [atB]; omega
 exact ⟨this, by simp [atI, this]⟩
theorem at_far {l : List Int} {i : Int} (h : (l.length : Int) ≤ i) : atB l i = false ∧ atI l i = 0 := by
 have : atB l i = false := by simp [atB]; omega
 exact ⟨this, by simp [atI, this]⟩
theorem at_in {l : List Int} {k : Nat} (h : k < l.length) : atB l (k : Int) = true ∧ atI l (k : Int) = l[k]?.getD 0 := by
 have : atB l (k : Int) = true := by simp [atB]; omega
 exact ⟨this, by simp [atI, this]⟩

theorem at_nil (i : Int) (w : World) :
 Calls Tryz.prog 91 #[.pointer none, .int .i64 i] w fun e w' => e = .returned (.tuple #[.int .u8 0, .bool false]) ∧ w = w' := by
 by_cases h : i < 0
 · go_enter Tryz.func91, Tryz.ntmps91
   go_wp2_with fail
   go_ret2
   exact ⟨rfl, rfl⟩
 · go_enter Tryz.func91, Tryz.ntmps91
   go_wp2_with (go_at_call 118; ((with_reducible refine (len_nil _).mono ?_); rintro e w' ⟨rfl, rfl⟩))
   go_ret2
   exact ⟨rfl, rfl⟩

theorem at_c (i : Int) (n₀ b size cap : Nat) (ao : Option Addr) (l : List Int) (w : World) (h : Ring w n₀ 174 b size ao cap l) (hl : l.length ≤ 4096) :
 Calls Tryz.prog 91 #[.pointer (some ⟨b, 0, none⟩), .int .i64 i] w fun e w' => e = .returned (.tuple #[.int .u8 (atI l i), .bool (atB l i)]) ∧ w = w' := by
 have c1 : w.cell? ⟨b, 1, none⟩ = some (.slice ao l.length cap) := by simpa using h.cell 1
 by_cases h0 : i < 0
 · rw [(at_neg h0).1, (at_neg h0).2]
   clear c1
   go_enter Tryz.func91, Tryz.ntmps91
   go_wp2_with fail
   go_ret2
   exact ⟨rfl, rfl⟩
 · by_cases h1 : (l.length : Int) ≤ i
   · rw [(at_far h1).1, (at_far h1).2]
     go_enter Tryz.func91, Tryz.ntmps91
     go_wp2_with (go_at_call 118; ((with_reducible refine (len_c _ _ _ _ _ c1).mono ?_); rintro e w' ⟨rfl, rfl⟩))
     go_ret2
     exact ⟨rfl, rfl⟩
   · obtain ⟨k, rfl⟩ := Int.eq_ofNat_of_zero_le (show 0 ≤ i by omega)
     have hk : k < l.length := by omega
     rw [(at_in hk).1, (at_in hk).2]
     obtain ⟨g, rfl, hc⟩ := row_cell h.row k hk
     generalize l[k]?.getD 0 = y at hc ⊢
     go_enter Tryz.func91, Tryz.ntmps91
     go_wp2_with (go_at_call 118; ((with_reducible refine (len_c _ _ _ _ _ c1).mono ?_); rintro e w' ⟨rfl, rfl⟩))
     go_ret2
     exact ⟨rfl, rfl⟩

theorem push_nil (x : Int) (w : World) :
 Calls Tryz.prog 78 #[.pointer none, .int .u8 x] w fun e w' => e = .returned (.int .i64 2) ∧ w = w' := by
 go_enter Tryz.func78, Tryz.ntmps78
 go_wp2_with fail
 go_ret
 exact ⟨rfl, rfl⟩

theorem push_full (x : Int) (n₀ b size cap : Nat) (ao : Option Addr) (l : List Int) (w : World) (h : Ring w n₀ 174 b size ao cap l) (hs : size ≤ 4096) (hl : l.length = size) :
 Calls Tryz.prog 78 #[.pointer (some ⟨b, 0, none⟩), .int .u8 x] w fun e w' => e = .returned (.int .i64 8) ∧ ∃ q, w' = w.drewN q := by
 have c0 : w.cell? ⟨b, 0, none⟩ = some (.int .i64 size) := by simpa using h.cell 0
 have c1 : w.cell? ⟨b, 1, none⟩ = some (.slice ao l.length cap) := by simpa using h.cell 1
 have h0 : ((size : Int) - (l.length : Int)) = 0 := by omega
 have H0 := hid h0
 have hl' : l.length ≤ size := by omega
 clear hl h0
 go_enter Tryz.func78, Tryz.ntmps78
 go_wp2_with (go_at_call 124; ((with_reducible refine (room_c _ _ _ _ _ _ hs hl' c0 c1).mono ?_); rintro e w' ⟨rfl, q, rfl⟩; rw [H0.out]))
 go_ret
 exact ⟨rfl, _, rfl⟩

/-- what a list's growing by an append, and the field's store, make of a ring. -/
theorem push_step {w w1 : World} {n₀ t e b cap : Nat} {cs : List Value} {ao : Option Addr} {n m : Nat} {xs ys : List Value} {v' : Value} {q : Nat} {o : Obj} (h : Held w n₀ t e 1 b cs ao n cap xs) (hte : t ≠ e)
 (hown : w1.ownsRow n₀ e 1 v' m ys) (hg : ((w.drewN q).alloc o).grownBy w1 (Value.ownBlock (.slice ao n cap))) (hat : v'.ownBlock = Value.ownBlock (.slice ao n cap) ∨ v'.ownBlock = some ((w.drewN q).alloc o).heap.size) :
 Keeps (Foot b ao) w w1 ∧ w1.heap[b]? = w.heap[b]? ∧ ∃ ao' cap', v' = .slice ao' m cap' ∧ Near ao ao' w.heap.size := by
 have hk : Keeps (Foot b ao) w w1 := by
  refine (((Keeps.refl (Foot b ao) w).drew q).alloc o).grown hg ?_
  intro k hk _
  cases ao with
  | none => simp [Value.ownBlock] at hk
  | some a => exact .inr ⟨a, rfl, by simpa [Value.ownBlock] using hk.symm⟩
 refine ⟨hk, ?_, ?_⟩
 · refine (hg.block b ?_ ?_).trans ?_
   · have := h.lt; simp; omega
   · intro e'
     cases ao with
     | none => simp [Value.ownBlock] at e'
     | some a => exact h.apart hte a rfl (by simpa [Value.ownBlock] using e'.symm)
   · exact Below.heap_alloc _ _ _ h.lt
 · have hnear : ∀ ao' m' cap', v' = .slice ao' m' cap' → Near ao ao' w.heap.size := by
    rintro ao' m' cap' rfl a' rfl
    rcases hat with h1 | h1
    · cases ao with
      | none => simp [Value.ownBlock] at h1
      | some a => exact .inl ⟨a, rfl, by simpa [Value.ownBlock] using h1.symm⟩
    · refine .inr ?_
      simp [Value.ownBlock] at h1
      omega
   rcases hown.2 with ⟨h1, h2⟩ | ⟨g, cap', cur, h1, _⟩
   · exact ⟨none, 0, by rw [h1, h2], hnear _ _ _ h1⟩
   · exact ⟨_, cap', h1, hnear _ _ _ h1⟩

theorem push_c (x : Int) (n₀ b size cap : Nat) (ao : Option Addr) (l : List Int) (w : World) (h : Ring w n₀ 174 b size ao cap l) (hs : size ≤ 4096) (hl : l.length < size) (hn : n₀ ≤ w.heap.size) :
 Calls Tryz.prog 78 #[.pointer (some ⟨b, 0, none⟩), .int .u8 x] w fun e w' => e = .returned (.int .i64 0) ∧
  ∃ ao' cap', Ring w' n₀ 174 b size ao' cap' (l ++ [x]) ∧ Near ao ao' w.heap.size ∧ Keeps (Foot b ao) w w' := by
 have c0 : w.cell? ⟨b, 0, none⟩ = some (.int .i64 size) := by simpa using h.cell 0
 have c1 : w.cell? ⟨b, 1, none⟩ = some (.slice ao l.length cap) := by simpa using h.cell 1
 have h0 : (((size : Int) - (l.length : Int)) == 0) = false := by simp; omega
 have hl' : l.length ≤ size := by omega
 have hb := h.lt
 obtain ⟨i0, hi, hz0, hz1, hz2⟩ := info_parts info_u8
 go_enter Tryz.func78, Tryz.ntmps78
 go_wp2_with (first
  | (go_at_call 124; ((with_reducible refine (room_c _ _ _ _ _ _ hs hl' c0 c1).mono ?_); rintro e w' ⟨rfl, q, rfl⟩))
  | (at_builtin; refine wpList_append_own_at _ rfl _ _ 41 rfl n₀ 5 i0 (.int .u8 0) 1 1 Tryz.underlying41 hi hz0 hz1 hz2 rfl (by decide) _ _ _ rfl ((h.drewN _).row.alloc _) ⟨w.heap.size, 0, none⟩ 1 1 [.int .u8 x] rfl rfl (cell_one_new _ _ _) (by simp [Value.oneCell']) (by unfold maxLen; omega) (by omega) (by simp; omega) ?_; intro v' w1 hown hg _ hat; obtain ⟨hk, hblk, ao', cap', rfl, hnear⟩ := push_step h (by decide) hown hg hat; have c2 : w1.cell? ⟨b, 1, none⟩ = some (.slice ao l.length cap) := (World.cell?_of_block hblk).trans c1; have f2 : w1.frozen? ⟨b, 1, none⟩ = false := (World.frozen?_of_block hblk).trans (h.frozen 1)))
 go_ret
 obtain ⟨hh, hk2⟩ := h.stored (by decide) hk hblk hown
 refine ⟨rfl, ao', cap', ?_, hnear, hk2⟩
 have e1 : (l ++ [x]).length = l.length + 1 := by simp
 show Held _ _ _ _ _ _ _ _ _ _ _
 rw [e1, ints_snoc]
 exact hh

end Go.Proofs.YtfclnhmijjlhdaaGreatDoor.Ru

namespace Go.Proofs.YtfclnhmijjlhdaaGreatDoor.Ru
open Rg
open Go.RowKit
set_option linter.unusedVariables false
set_option maxRecDepth 100000

theorem delete_c (n₀ g n cap i j : Nat) (xs : List Value) (w : World) (h : w.ownsRow n₀ 5 1 (.slice (some ⟨g, 0, none⟩) n cap) n xs) (h1 : ∀ u ∈ xs, u.oneCell' = true) (hij : i < j) (hj : j ≤ n) (hn : n ≤ 4096) :
 Calls Tryz.prog 165 #[.slice (some ⟨g, 0, none⟩) n cap, .int .i64 i, .int .i64 j] w fun e w' => e = .returned (.slice (some ⟨g, 0, none⟩) (i + (n - j)) cap) ∧
  w'.ownsRow n₀ 5 1 (.slice (some ⟨g, 0, none⟩) (i + (n - j)) cap) (i + (n - j)) (xs.take i ++ xs.drop j) ∧ w.grownBy w' (some g) := by
 obtain ⟨i0, hi0, hz0, hz1, hz2⟩ := info_parts info_u8
 obtain ⟨hcap, hm⟩ : n ≤ cap ∧ cap ≤ 9223372036854775807 := by
  rcases h.2 with ⟨h', _⟩ | ⟨_, _, _, h', _, _, h2, h3, _⟩
  · simp at h'
  · cases h'; exact ⟨h2, by simpa [maxLen] using h3⟩
 obtain ⟨cur, hg⟩ : ∃ cur, w.heap[g]? = some (.cells cur 5 (0, 0)) := by
  rcases h.2 with ⟨h', _⟩ | ⟨_, _, cur, h', _, hh, _⟩
  · simp at h'
  · cases h'; exact ⟨cur, hh⟩
 obtain ⟨news, hnews⟩ : ∃ news, news = xs.drop j := ⟨_, rfl⟩
 have hlen : news.length = n - j := by rw [hnews, List.length_drop, h.1]; omega
 obtain ⟨A, hA, hsrc⟩ : ∃ A : Addr, (if cap = j then some (⟨g, 0, none⟩ : Addr) else some ⟨g, j, none⟩) = some A ∧ Hid (∀ t u, news[t]? = some u → w.drew.cell? (A.add t) = some u) := by
  by_cases hc : cap = j
  · refine ⟨⟨g, 0, none⟩, by simp [hc], fun t u hu => ?_⟩
    have h0 : news.length = 0 := by rw [hlen]; omega
    rw [List.length_eq_zero_iff.1 h0] at hu
    simp at hu
  · refine ⟨⟨g, j, none⟩, by simp [hc], fun t u hu => ?_⟩
    rw [Addr.add_lit]
    exact row_from h j t u (by rw [← hnews]; exact hu)
 have s1 : Hid (news.length = (n - j) * 1) := by rw [Nat.mul_one]; exact hlen
 have s2 : Hid (∀ u ∈ news, u.oneCell' = true) := fun u hu => h1 u (List.mem_of_mem_drop (by rw [← hnews]; exact hu))
 have s3 : Hid (∀ t, t < news.length → (w.drew.cell? ⟨g, 0 + i * 1 + t, none⟩).isSome = true ∧ w.drew.frozen? ⟨g, 0 + i * 1 + t, none⟩ = false) := by
  intro t ht
  exact row_there h (0 + i * 1 + t) (by rw [hlen] at ht; omega)
 obtain ⟨W1, hW1⟩ : ∃ W1, W1 = w.drew.setCells g (0 + i * 1) news := ⟨_, rfl⟩
 have hcl : ∀ ty, (Builtin.clear_ #[41] ty #[.slice (some ⟨g, i + (n - j), none⟩) (n - (i + (n - j))) (cap - (i + (n - j)))]).run Tryz.prog W1 = .ok (.tuple #[]) (W1.setCells g (i + (n - j)) (List.replicate (n - (i + (n - j))) (.int .u8 0))) := by
  intro ty
  have ht : ∀ k, k < n - (i + (n - j)) → (W1.cell? ⟨g, i + (n - j) + k, none⟩).isSome = true ∧ W1.frozen? ⟨g, i + (n - j) + k, none⟩ = false := by
   intro k hk
   rw [hW1]
   exact there_set (w := w.drew) news (0 + i * 1) _ (row_there h _ (by omega)) cur hg
  refine run_clear_k W1 _ _ ty (.int .u8 0) _ Tryz.underlying41 Tryz.zeroValue5 g (i + (n - j)) _ _ (by omega) (zeros_one _) (by intro v hv; rw [List.eq_of_mem_replicate hv]; rfl) ?_ ?_
  · intro k hk; exact (ht k (by simpa using hk)).1
  · intro k hk; exact (ht k (by simpa using hk)).2
 have hW : Hid (W1 = w.drew.setCells g (0 + i * 1) news) := hW1
 have hN : Hid (news = xs.drop j) := hnews
 have hO := hid (del_own h (Nat.le_of_lt hij) hj 1 (List.replicate (n - (i + (n - j))) (.int .u8 0)) (by simp; omega))
 have hic : i ≤ cap := by omega
 have hjc : j ≤ cap := by omega
 clear hW1 hnews hlen hg h h1
 go_enter Tryz.func165, Tryz.ntmps165
 go_wp2_with fail
 go_region_law (refine step_append_room rfl (.tmp 22) (.tmp 25) 41 rfl 5 i0 1 Tryz.underlying41 hi0 hz1 g 0 i cap (by simp [Act.eval, Act.put]) A (n - j) (cap - j) news (by simp [Act.eval, Act.put]) s1.out hsrc.out s2.out (by omega) s3.out ?_; rw [← hW.out])
 go_wp2
 go_ret
 have := hO.out
 simp only [Nat.mul_one] at this
 rw [hW.out, hN.out, Nat.mul_one, Nat.zero_add]
 exact ⟨rfl, this⟩

/-- a list with the i-th one taken off. -/
def takeL (l : List Int) (i : Int) : List Int := if atB l i = true then l.take i.toNat ++ l.drop (i.toNat + 1) else l
theorem takeL_in {l : List Int} {k : Nat} (h : k < l.length) : takeL l (k : Int) = l.take k ++ l.drop (k + 1) := by simp [takeL, (at_in h).1]
theorem takeL_no {l : List Int} {i : Int} (h : atB l i = false) : takeL l i = l := by simp [takeL, h]
theorem takeL_len (l : List Int) (i : Int) : (takeL l i).length ≤ l.length := by
 unfold takeL
 split
 · simp; omega
 · omega

theorem take_nil (i : Int) (w : World) :
 Calls Tryz.prog 135 #[.pointer none, .int .i64 i] w fun e w' => e = .returned (.tuple #[.int .u8 0, .bool false]) ∧ w = w' := by
 go_enter Tryz.func135, Tryz.ntmps135
 go_wp2_with (go_at_call 91; ((with_reducible refine (at_nil _ _).mono ?_); rintro e w' ⟨rfl, rfl⟩))
 go_ret2
 exact ⟨rfl, rfl⟩

theorem take_c (i : Int) (n₀ b size cap : Nat) (ao : Option Addr) (l : List Int) (w : World) (h : Ring w n₀ 174 b size ao cap l) (hl : l.length ≤ 4096) :
 Calls Tryz.prog 135 #[.pointer (some ⟨b, 0, none⟩), .int .i64 i] w fun e w' => e = .returned (.tuple #[.int .u8 (atI l i), .bool (atB l i)]) ∧
  ∃ ao' cap', Ring w' n₀ 174 b size ao' cap' (takeL l i) ∧ Near ao ao' w.heap.size ∧ Keeps (Foot b ao) w w' := by
 have c1 : w.cell? ⟨b, 1, none⟩ = some (.slice ao l.length cap) := by simpa using h.cell 1
 by_cases hB : atB l i = true
 · have hi : 0 ≤ i ∧ i < l.length := by simpa [atB] using hB
   obtain ⟨k, rfl⟩ := Int.eq_ofNat_of_zero_le hi.1
   have hk : k < l.length := by omega
   obtain ⟨g, rfl, _⟩ := row_cell h.row k hk
   rw [takeL_in hk, hB]
   have HB := hid hB
   have Hd : Hid (Calls Tryz.prog 165 #[.slice (some ⟨g, 0, none⟩) l.length cap, .int .i64 (k : Int), .int .i64 ((k : Int) + 1)] w fun e w' => e = .returned (.slice (some ⟨g, 0, none⟩) (k + (l.length - (k + 1))) cap) ∧
    w'.ownsRow n₀ 5 1 (.slice (some ⟨g, 0, none⟩) (k + (l.length - (k + 1))) cap) (k + (l.length - (k + 1))) ((ints l).take k ++ (ints l).drop (k + 1)) ∧ w.grownBy w' (some g)) :=
    delete_c n₀ g l.length cap k (k + 1) (ints l) w h.row (ints_one l) (Nat.lt_succ_self k) hk hl
   clear hB
   go_enter Tryz.func135, Tryz.ntmps135
   go_wp2_with (first
    | (go_at_call 91; ((with_reducible refine (at_c _ _ _ _ _ _ _ _ h hl).mono ?_); rintro e w' ⟨rfl, rfl⟩; rw [HB.out]))
    | (go_at_call 165; ((with_reducible refine Hd.out.mono ?_); rintro e w1 ⟨rfl, hown, hg⟩; have hblk : w1.heap[b]? = w.heap[b]? := hg.block b h.lt (fun e => h.apart (by decide) _ rfl (by simpa using e.symm)); have c2 : w1.cell? ⟨b, 1, none⟩ = some (.slice (some ⟨g, 0, none⟩) l.length cap) := (World.cell?_of_block hblk).trans c1; have f2 : w1.frozen? ⟨b, 1, none⟩ = false := (World.frozen?_of_block hblk).trans (h.frozen 1))))
   go_ret2
   have hk1 : Keeps (Foot b (some ⟨g, 0, none⟩)) w w1 := (Keeps.refl _ w).grown hg (fun i hi _ => .inr ⟨_, rfl, by simpa using hi.symm⟩)
   obtain ⟨hh, hk2⟩ := h.stored (by decide) hk1 hblk hown
   refine ⟨rfl, _, cap, ?_, Near.refl _ _, hk2⟩
   have e1 : (l.take k ++ l.drop (k + 1)).length = k + (l.length - (k + 1)) := by simp; omega
   have e2 : ints (l.take k ++ l.drop (k + 1)) = (ints l).take k ++ (ints l).drop (k + 1) := by simp [ints]
   show Held _ _ _ _ _ _ _ _ _ _ _
   rw [e1, e2]
   exact hh
 · have hB' : atB l i = false := by simpa using hB
   have HB := hid hB'
   rw [takeL_no hB', hB']
   have h2 : Calls Tryz.prog 135 #[.pointer (some ⟨b, 0, none⟩), .int .i64 i] w fun e w' => e = .returned (.tuple #[.int .u8 (atI l i), .bool false]) ∧ w = w' := by
    clear hB hB'
    go_enter Tryz.func135, Tryz.ntmps135
    go_wp2_with (go_at_call 91; ((with_reducible refine (at_c _ _ _ _ _ _ _ _ h hl).mono ?_); rintro e w' ⟨rfl, rfl⟩; rw [HB.out]))
    go_ret2
    exact ⟨rfl, rfl⟩
   refine h2.mono ?_
   rintro e w' ⟨he, rfl⟩
   exact ⟨he, ao, cap, h, Near.refl _ _, Keeps.refl _ _⟩

theorem pop_nil (w : World) :
 Calls Tryz.prog 93 #[.pointer none] w fun e w' => e = .returned (.tuple #[.int .u8 0, .bool false]) ∧ w = w' := by
 go_enter Tryz.func93, Tryz.ntmps93
 go_wp2_with (go_at_call 135; ((with_reducible refine (take_nil _ _).mono ?_); rintro e w' ⟨rfl, rfl⟩))
 go_ret2
 exact ⟨rfl, rfl⟩

theorem pop_c (n₀ b size cap : Nat) (ao : Option Addr) (l : List Int) (w : World) (h : Ring w n₀ 174 b size ao cap l) (hl : l.length ≤ 4096) :
 Calls Tryz.prog 93 #[.pointer (some ⟨b, 0, none⟩)] w fun e w' => e = .returned (.tuple #[.int .u8 (atI l 0), .bool (atB l 0)]) ∧
  ∃ ao' cap', Ring w' n₀ 174 b size ao' cap' (takeL l 0) ∧ Near ao ao' w.heap.size ∧ Keeps (Foot b ao) w w' := by
 go_enter Tryz.func93, Tryz.ntmps93
 go_wp2_with (go_at_call 135; ((with_reducible refine (take_c _ _ _ _ _ _ _ _ h hl).mono ?_); rintro e w1 ⟨rfl, hrest⟩))
 go_ret2
 exact ⟨rfl, hrest⟩

end Go.Proofs.YtfclnhmijjlhdaaGreatDoor.Ru
