/- What is told, by its kind (layer 12, game). -/
import Derived.Test.YtoogcbniphoaoaaDoorGmTell
import Derived.Deep.DeepCutAuto
import Derived.Deep.RegionWith
namespace Go.Proofs.YtoogcbniphoaoaaDoor.Gm
open Go.RowKit Go.Proofs.YtoogcbniphoaoaaDoor.Fx Go.Proofs.YtoogcbniphoaoaaDoor.Tg Go.Proofs.YtoogcbniphoaoaaDoor.Dc
open Go.Proofs.YtoogcbniphoaoaaDoor.Ev (Ev Ky addR pageI At ecs Pg Evs)
open Go.Proofs.YtoogcbniphoaoaaDoor.Sh (In32 vec box insideB touchB slI mvP mvV wallI)
set_option linter.unusedVariables false

theorem tl0_4 {w : World} {n b pb : Nat} {s : St} {l : List Ev} (h : Gs w n b pb s l) :
    Calls Tryd.prog 33 #[.pointer (some ⟨b, 0, none⟩), .int .i64 0, .int .i64 4] w fun e w' => e = .returned (.tuple #[]) ∧ Gk w w' n b pb s (tel s.fr l 0 4 0) := tell0_c 4 (by decide) (by decide) w h

theorem tl0_7 {w : World} {n b pb : Nat} {s : St} {l : List Ev} (h : Gs w n b pb s l) :
    Calls Tryd.prog 33 #[.pointer (some ⟨b, 0, none⟩), .int .i64 0, .int .i64 7] w fun e w' => e = .returned (.tuple #[]) ∧ Gk w w' n b pb s (tel s.fr l 0 7 0) := tell0_c 7 (by decide) (by decide) w h

theorem tl1_1 {w : World} {n b pb : Nat} {s : St} {l : List Ev} (h : Gs w n b pb s l) (hx : -4194304 ≤ s.p0.ax ∧ s.p0.ax ≤ 4194304) :
    Calls Tryd.prog 33 #[.pointer (some ⟨b, 0, none⟩), .int .i64 1, .int .i64 1] w fun e w' => e = .returned (.tuple #[]) ∧ Gk w w' n b pb s (tel s.fr l 1 1 s.p0.ax) := tell1_c 1 (by decide) (by decide) w h hx

theorem tl1_2 {w : World} {n b pb : Nat} {s : St} {l : List Ev} (h : Gs w n b pb s l) (hx : -4194304 ≤ s.p0.ax ∧ s.p0.ax ≤ 4194304) :
    Calls Tryd.prog 33 #[.pointer (some ⟨b, 0, none⟩), .int .i64 1, .int .i64 2] w fun e w' => e = .returned (.tuple #[]) ∧ Gk w w' n b pb s (tel s.fr l 1 2 s.p0.ax) := tell1_c 2 (by decide) (by decide) w h hx

theorem tl1_3 {w : World} {n b pb : Nat} {s : St} {l : List Ev} (h : Gs w n b pb s l) (hx : -4194304 ≤ s.p0.ax ∧ s.p0.ax ≤ 4194304) :
    Calls Tryd.prog 33 #[.pointer (some ⟨b, 0, none⟩), .int .i64 1, .int .i64 3] w fun e w' => e = .returned (.tuple #[]) ∧ Gk w w' n b pb s (tel s.fr l 1 3 s.p0.ax) := tell1_c 3 (by decide) (by decide) w h hx

theorem tl1_5 {w : World} {n b pb : Nat} {s : St} {l : List Ev} (h : Gs w n b pb s l) (hx : -4194304 ≤ s.p0.ax ∧ s.p0.ax ≤ 4194304) :
    Calls Tryd.prog 33 #[.pointer (some ⟨b, 0, none⟩), .int .i64 1, .int .i64 5] w fun e w' => e = .returned (.tuple #[]) ∧ Gk w w' n b pb s (tel s.fr l 1 5 s.p0.ax) := tell1_c 5 (by decide) (by decide) w h hx

theorem tl1_6 {w : World} {n b pb : Nat} {s : St} {l : List Ev} (h : Gs w n b pb s l) (hx : -4194304 ≤ s.p0.ax ∧ s.p0.ax ≤ 4194304) :
    Calls Tryd.prog 33 #[.pointer (some ⟨b, 0, none⟩), .int .i64 1, .int .i64 6] w fun e w' => e = .returned (.tuple #[]) ∧ Gk w w' n b pb s (tel s.fr l 1 6 s.p0.ax) := tell1_c 6 (by decide) (by decide) w h hx

theorem tl1_8 {w : World} {n b pb : Nat} {s : St} {l : List Ev} (h : Gs w n b pb s l) (hx : -4194304 ≤ s.p0.ax ∧ s.p0.ax ≤ 4194304) :
    Calls Tryd.prog 33 #[.pointer (some ⟨b, 0, none⟩), .int .i64 1, .int .i64 8] w fun e w' => e = .returned (.tuple #[]) ∧ Gk w w' n b pb s (tel s.fr l 1 8 s.p0.ax) := tell1_c 8 (by decide) (by decide) w h hx

theorem tl1_9 {w : World} {n b pb : Nat} {s : St} {l : List Ev} (h : Gs w n b pb s l) (hx : -4194304 ≤ s.p0.ax ∧ s.p0.ax ≤ 4194304) :
    Calls Tryd.prog 33 #[.pointer (some ⟨b, 0, none⟩), .int .i64 1, .int .i64 9] w fun e w' => e = .returned (.tuple #[]) ∧ Gk w w' n b pb s (tel s.fr l 1 9 s.p0.ax) := tell1_c 9 (by decide) (by decide) w h hx

theorem tl2_1 {w : World} {n b pb : Nat} {s : St} {l : List Ev} (h : Gs w n b pb s l) (hx : -4194304 ≤ s.p1.ax ∧ s.p1.ax ≤ 4194304) :
    Calls Tryd.prog 33 #[.pointer (some ⟨b, 0, none⟩), .int .i64 2, .int .i64 1] w fun e w' => e = .returned (.tuple #[]) ∧ Gk w w' n b pb s (tel s.fr l 2 1 s.p1.ax) := tell2_c 1 (by decide) (by decide) w h hx

theorem tl2_2 {w : World} {n b pb : Nat} {s : St} {l : List Ev} (h : Gs w n b pb s l) (hx : -4194304 ≤ s.p1.ax ∧ s.p1.ax ≤ 4194304) :
    Calls Tryd.prog 33 #[.pointer (some ⟨b, 0, none⟩), .int .i64 2, .int .i64 2] w fun e w' => e = .returned (.tuple #[]) ∧ Gk w w' n b pb s (tel s.fr l 2 2 s.p1.ax) := tell2_c 2 (by decide) (by decide) w h hx

theorem tl2_3 {w : World} {n b pb : Nat} {s : St} {l : List Ev} (h : Gs w n b pb s l) (hx : -4194304 ≤ s.p1.ax ∧ s.p1.ax ≤ 4194304) :
    Calls Tryd.prog 33 #[.pointer (some ⟨b, 0, none⟩), .int .i64 2, .int .i64 3] w fun e w' => e = .returned (.tuple #[]) ∧ Gk w w' n b pb s (tel s.fr l 2 3 s.p1.ax) := tell2_c 3 (by decide) (by decide) w h hx

theorem tl2_5 {w : World} {n b pb : Nat} {s : St} {l : List Ev} (h : Gs w n b pb s l) (hx : -4194304 ≤ s.p1.ax ∧ s.p1.ax ≤ 4194304) :
    Calls Tryd.prog 33 #[.pointer (some ⟨b, 0, none⟩), .int .i64 2, .int .i64 5] w fun e w' => e = .returned (.tuple #[]) ∧ Gk w w' n b pb s (tel s.fr l 2 5 s.p1.ax) := tell2_c 5 (by decide) (by decide) w h hx

theorem tl2_6 {w : World} {n b pb : Nat} {s : St} {l : List Ev} (h : Gs w n b pb s l) (hx : -4194304 ≤ s.p1.ax ∧ s.p1.ax ≤ 4194304) :
    Calls Tryd.prog 33 #[.pointer (some ⟨b, 0, none⟩), .int .i64 2, .int .i64 6] w fun e w' => e = .returned (.tuple #[]) ∧ Gk w w' n b pb s (tel s.fr l 2 6 s.p1.ax) := tell2_c 6 (by decide) (by decide) w h hx

theorem tl2_8 {w : World} {n b pb : Nat} {s : St} {l : List Ev} (h : Gs w n b pb s l) (hx : -4194304 ≤ s.p1.ax ∧ s.p1.ax ≤ 4194304) :
    Calls Tryd.prog 33 #[.pointer (some ⟨b, 0, none⟩), .int .i64 2, .int .i64 8] w fun e w' => e = .returned (.tuple #[]) ∧ Gk w w' n b pb s (tel s.fr l 2 8 s.p1.ax) := tell2_c 8 (by decide) (by decide) w h hx

theorem tl2_9 {w : World} {n b pb : Nat} {s : St} {l : List Ev} (h : Gs w n b pb s l) (hx : -4194304 ≤ s.p1.ax ∧ s.p1.ax ≤ 4194304) :
    Calls Tryd.prog 33 #[.pointer (some ⟨b, 0, none⟩), .int .i64 2, .int .i64 9] w fun e w' => e = .returned (.tuple #[]) ∧ Gk w w' n b pb s (tel s.fr l 2 9 s.p1.ax) := tell2_c 9 (by decide) (by decide) w h hx

theorem Gs.ne {w : World} {n b pb : Nat} {s : St} {l : List Ev} {c : Nat} {cs : Array Value} {T : TypeId} (h : Gs w n b pb s l) (x : At w c cs T) (ht : T ≠ 59) : c ≠ b := by
  intro e
  subst e
  have hx : w.heap[c]? = some (.cells cs T (0, 0)) := x
  have := hx.symm.trans h.blk
  simp at this
  exact ht this.2
theorem bset_k {w W : World} {m b : Nat} (h : Below m w W) (hb : m ≤ b) (j : Nat) (v : Value) : Below m w (W.setCell ⟨b, j, none⟩ v) := h.setCell hb v

theorem em0 (w : World) : Calls Tryd.prog 40 #[.int .i64 0] w fun e w' => e = .returned (.int .i64 1) ∧ w = w' := emitter_c 0 (by decide) w
theorem em1 (w : World) : Calls Tryd.prog 40 #[.int .i64 1] w fun e w' => e = .returned (.int .i64 2) ∧ w = w' := emitter_c 1 (by decide) w

end Go.Proofs.YtoogcbniphoaoaaDoor.Gm
