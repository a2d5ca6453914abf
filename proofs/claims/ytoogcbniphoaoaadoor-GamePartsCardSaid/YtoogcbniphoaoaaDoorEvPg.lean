/- Pages: Open, Add and List (layer 11, event). -/
import Derived.Test.YtoogcbniphoaoaaDoorEvIn
import Derived.Test.YtoogcbniphoaoaaDoorEvPut
namespace Go.Proofs.YtoogcbniphoaoaaDoor.Ev
open Go.RowKit
open Go.Proofs.YtoogcbniphoaoaaDoor.Rg hiding hid
set_option linter.unusedVariables false

theorem insert_c (n₀ n cap i vb : Nat) (ao : Option Addr) (y : Ev) (xs : List Value) (w : World) (h : w.ownsRow n₀ 45 9 (.slice ao n cap) n xs) (h1 : ∀ u ∈ xs, u.oneCell' = true) (hv : NewAt w vb y) (hvg : ∀ a, ao = some a → vb ≠ a.block) (hi : i ≤ n) (hn : n ≤ 4096) (hb : n₀ ≤ w.heap.size) :
    Calls Tryd.prog 66 #[.slice ao n cap, .int .i64 i, .slice (some ⟨vb, 0, none⟩) 1 1] w fun e w' => ∃ ao' cap', e = .returned (.slice ao' (n + 1) cap') ∧
      w'.ownsRow n₀ 45 9 (.slice ao' (n + 1) cap') (n + 1) (xs.take (i * 9) ++ (ecs y) ++ xs.drop (i * 9)) ∧ w.grownBy w' (Value.ownBlock (.slice ao n cap)) ∧ Rg.Near ao ao' w.heap.size := by
  by_cases he : i = n
  · subst he
    have e1 : xs.take (i * 9) = xs := List.take_of_length_le (by rw [h.1]; omega)
    have e2 : xs.drop (i * 9) = [] := List.drop_eq_nil_of_le (by rw [h.1]; omega)
    rw [e1, e2, List.append_nil]
    exact insert_end n₀ i cap vb ao y xs w h hv hn hb
  · rcases h.2 with ⟨h', rfl⟩ | ⟨g, cap', cur, h', _⟩
    · omega
    · cases h'
      by_cases hr : n + 1 ≤ cap
      · refine (insert_room n₀ g n cap i vb y xs w h h1 hv (hvg _ rfl) (by omega) hr hn).mono ?_
        rintro e w' ⟨rfl, ho, hg⟩
        exact ⟨_, _, rfl, ho, hg, Rg.Near.refl _ _⟩
      · refine (insert_grow n₀ g n cap i vb y xs w h h1 hv (by omega) (by omega) hn hb).mono ?_
        rintro e w' ⟨c', rfl, ho, hB⟩
        refine ⟨_, c', rfl, ho, ⟨hB.os, hB.tape, hB.output, hB.size, fun k hk _ => hB.block k hk⟩, ?_⟩
        rintro a' e
        cases e
        exact .inr (Nat.le_refl _)

theorem ins_keeps {w w1 : World} {n₀ t e b cap : Nat} {cs : List Value} {ao : Option Addr} {n : Nat} {xs : List Value} (h : Held w n₀ t e 9 b cs ao n cap xs) (hte : t ≠ e) (hg : w.grownBy w1 (Value.ownBlock (.slice ao n cap))) :
    Keeps (Foot b ao) w w1 ∧ w1.heap[b]? = w.heap[b]? := by
  refine ⟨(Keeps.refl _ w).grown hg ?_, hg.block b h.lt ?_⟩
  · intro k hk _
    cases ao with
    | none => simp [Value.ownBlock] at hk
    | some a => exact .inr ⟨a, rfl, by simpa [Value.ownBlock] using hk.symm⟩
  · intro e'
    cases ao with
    | none => simp [Value.ownBlock] at e'
    | some a => exact h.apart hte a rfl (by simpa [Value.ownBlock] using e'.symm)


theorem put_lo (x : Ev) : ∀ l : List Ev, putL x l = l.take (lo (keys l) x.key) ++ [x] ++ l.drop (lo (keys l) x.key)
  | [] => rfl
  | y :: l => by
    have ih := put_lo x l
    by_cases h : ltK y.key x.key
    · have e : lo (keys (y :: l)) x.key = lo (keys l) x.key + 1 := by simp [lo, keys, h]
      rw [e]
      conv => lhs; unfold putL
      rw [if_neg (by rw [cmpK_le]; simpa using h), ih]
      simp
    · have e : lo (keys (y :: l)) x.key = 0 := by simp [lo, keys, h]
      rw [e]
      conv => lhs; unfold putL
      rw [if_pos (by rw [cmpK_le]; exact h)]
      simp

/-- the event under the page's frame, first of its emitter and kind. -/
def under (fr o : Int) (e : Ev) : Ev := ⟨⟨fr, e.key.e, e.key.k, o⟩, e.a, e.g, e.p, e.r, e.l⟩
/-- which number it gets. -/
def ordI (l : List Ev) (e : Ev) : Nat := (keys l).countP (sameB e.key.e e.key.k)
/-- what Add makes of a page: its events, the key, and the error. -/
def addR (fr : Int) (l : List Ev) (e : Ev) : List Ev × Ky × Int :=
  if evB (under fr 0 e) = true then (if 64 ≤ l.length ∨ 15 < ordI l e then (l, zeroK, 8) else (putL (under fr (ordI l e) e) l, (under fr (ordI l e) e).key, 0)) else (l, zeroK, 1)

/-- a page in memory. -/
abbrev Pg (w : World) (n₀ b : Nat) (fr : Int) (ao : Option Addr) (cap : Nat) (l : List Ev) : Prop := Held w n₀ 70 45 9 b [.int .i64 fr] ao l.length cap (flat ecs l)

theorem Pg.sl {w : World} {n₀ b : Nat} {fr : Int} {ao : Option Addr} {cap : Nat} {l : List Ev} (h : Pg w n₀ b fr ao cap l) : Evs w (.slice ao l.length cap) l := owns_sl (enc := ecs) (k := 9) (fun _ => rfl) h.row
theorem Pg.at {w : World} {n₀ b : Nat} {fr : Int} {ao : Option Addr} {cap : Nat} {l : List Ev} (h : Pg w n₀ b fr ao cap l) : At w b #[.int .i64 fr, .slice ao l.length cap] 70 := h.block

theorem open_c (fr : Int) (n₀ : Nat) (w : World) (hn : n₀ ≤ w.heap.size) (hf : inB fr 0 1073741824 = true) :
    Calls Tryd.prog 15 #[.int .i64 fr] w fun e w' => e = .returned (.tuple #[.pointer (some ⟨w.heap.size, 0, none⟩), .int .i64 0]) ∧ Pg w' n₀ w.heap.size fr none 0 [] ∧ Below w.heap.size w w' := by
  have hN : Pg (w.alloc (.cells #[.int .i64 fr, .slice none 0 0] 70)) n₀ w.heap.size fr none 0 [] := Held.new w n₀ 70 45 9 [.int .i64 fr] hn
  go_enter Tryd.func15, Tryd.ntmps15
  go_wp2_with (go_at_call 25; ((with_reducible refine (isframe_c _ _).mono ?_); rintro e w' ⟨rfl, rfl⟩; rw [hf]))
  go_ret2
  exact ⟨rfl, hN, bal (br w) _⟩
theorem open_no (fr : Int) (w : World) (hf : inB fr 0 1073741824 = false) :
    Calls Tryd.prog 15 #[.int .i64 fr] w fun e w' => e = .returned (.tuple #[.pointer none, .int .i64 1]) ∧ w = w' := by
  go_enter Tryd.func15, Tryd.ntmps15
  go_wp2_with (go_at_call 25; ((with_reducible refine (isframe_c _ _).mono ?_); rintro e w' ⟨rfl, rfl⟩; rw [hf]))
  go_ret2
  exact ⟨rfl, rfl⟩

theorem list_nil (w : World) : Calls Tryd.prog 20 #[.pointer none] w fun e w' => e = .returned (.slice none 0 0) ∧ w = w' := by
  go_enter Tryd.func20, Tryd.ntmps20
  go_wp2_with fail
  go_ret
  exact ⟨rfl, rfl⟩
theorem list_c (w : World) {n₀ b : Nat} {fr : Int} {ao : Option Addr} {cap : Nat} {l : List Ev} (h : Pg w n₀ b fr ao cap l) (hl : l.length ≤ 4096) :
    Calls Tryd.prog 20 #[.pointer (some ⟨b, 0, none⟩)] w fun e w' => ∃ v, e = .returned v ∧ Evs w' v l ∧ Below w.heap.size w w' := by
  obtain ⟨p0, p1⟩ := h.at.two
  have HC := hid (clone_c _ l w h.sl hl)
  clear h
  go_enter Tryd.func20, Tryd.ntmps20
  go_wp2_with (go_at_call 36; ((with_reducible refine HC.out.mono ?_); rintro e w' ⟨v, rfl, ho, hb⟩))
  go_ret
  exact ⟨_, rfl, owns_sl (enc := ecs) (k := 9) (fun _ => rfl) ho, hb⟩

end Go.Proofs.YtoogcbniphoaoaaDoor.Ev
