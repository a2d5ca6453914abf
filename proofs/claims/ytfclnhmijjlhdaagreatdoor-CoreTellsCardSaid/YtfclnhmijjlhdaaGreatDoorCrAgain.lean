/- The frames that are to be played again, by their function (layer 15, core). -/
import Derived.Test.YtfclnhmijjlhdaaGreatDoorJ25
import Derived.Test.YtfclnhmijjlhdaaGreatDoorJ22
namespace Go.Proofs.YtfclnhmijjlhdaaGreatDoor.Cr
open Go.RowKit Go.Shelf
open Go.Proofs.YtfclnhmijjlhdaaGreatDoor.Rg
open Go.Proofs.YtfclnhmijjlhdaaGreatDoor.Fd (Fed wrongV)
open Go.Proofs.YtfclnhmijjlhdaaGreatDoor.Gm (St)
open Go.Proofs.YtfclnhmijjlhdaaGreatDoor.Ev (Ev At bt br bal bd1 bdn)
open Go.Proofs.YtfclnhmijjlhdaaGreatDoor.Ru (upto upto_succ upto_length)
set_option linter.unusedVariables false
set_option maxRecDepth 100000

/-- what the frames' function asks of each round: its pointer and the current frame are kept. -/
def Kc (b Bn : Nat) (W W' : World) : Prop := W'.heap[Bn]? = W.heap[Bn]? ∧ W'.cell? ⟨b, 6, none⟩ = W.cell? ⟨b, 6, none⟩
theorem kc_t {b Bn : Nat} {X Y Z : World} (h : Kc b Bn X Y) (k : Kc b Bn Y Z) : Kc b Bn X Z := ⟨k.1.trans h.1, k.2.trans h.2⟩
theorem kc_below {b Bn : Nat} {X Y : World} (hb : b < X.heap.size) (hB : Bn < X.heap.size) (h : Below X.heap.size X Y) : Kc b Bn X Y := ⟨h.block Bn hB, h.cell (p := ⟨b, 6, none⟩) hb⟩
theorem kc_b {b Bn : Nat} {w : World} (hb : b < w.heap.size) (hB : Bn < w.heap.size) (W : World) (l : Nat) (o o' : Obj) (hl : w.heap.size ≤ l) (h : W.heap[l]? = some o) (_ : o.isCells = false) (_ : o.isWalk = false) : Kc b Bn W (W.putObj l o') := by
 have hlt := (Array.getElem?_eq_some_iff.1 h).1
 have g := grownBy_putObj' W l o'
 refine ⟨g.block Bn (by omega) (fun e => by cases e; omega), ?_⟩
 exact World.cell?_of_block (g.block b (by omega) (fun e => by cases e; omega))

section
variable {n₀ b : Nat} {bf : Nat → Nat} {FF : Nat → Nat → Prop} {ao : Option Addr} {cap : Nat} {bs d wi me : Nat} {m : Nat → FD} {cur : Nat} {fi : Int} {L : List (Int × St)}
/-- the x-th of the frames from k on (of the last one, where there are fewer). -/
def fAt (k N x : Nat) : Nat := k + min x (N - 1)

set_option maxHeartbeats 2000000 in
theorem again1_yes (n : Nat) (hn : 1 ≤ n) (l Bn k N : Nat) (J Jx : List Nat → World → Prop)
 (W : World) (h : CP W n₀ b bf FF bs ao cap d wi me m cur fi L) (hm : me < 2) (hw : Fd.wrong (m (1 - me)) = some k) (hN : cur = k + N) (hcur : cur ≤ 1073741825) (hBW : Bn < W.heap.size) (hJ : AbidesFrom W.heap.size J)
 (hY : ∀ pre x W, J pre W → pre.length < N → YieldAt Fence.wide (n - 1) Tryz.prog l #[.int .i64 ((fAt k N x : Nat) : Int)] W fun e W' =>
  (e = .returned (.bool true) ∧ J (pre ++ [x]) W' ∧ Kc b Bn W W') ∨ (e = .returned (.bool false) ∧ Jx (pre ++ [x]) W'))
 (hBn : W.cell? ⟨Bn, 0, none⟩ = some (.pointer (some ⟨b, 0, none⟩))) (h0 : J [] W) :
 CallsIn Fence.wide n Tryz.prog 87 #[.func (.yield l) #[] #[], .pointer (some ⟨Bn, 0, none⟩)] W fun e W' => (∃ v, e = .returned v) ∧
  ((∃ ys, ys = List.range N ∧ J ys W') ∨ (∃ pre, (∃ q, q ≤ N ∧ pre = List.range q) ∧ Jx pre W')) := by
 have HTh := hid (theirs_c (Cz.self h) hm)
 have HW := hid (fun q => wrong_q h hm W (Below.refl _ _) q)
 have e1 : wrongV (m (1 - me)) = (k : Int) := by unfold Fd.wrongV; rw [hw]
 rw [e1, hw] at HW
 have hbl := h.lt
 have c6 := h.cells.2.2.2.2.2.2
 clear h hw e1
 refine callsIn_of_wp Tryz.func87 rfl trivial ?_ rfl
 simp only [Tryz.ntmps87, List.size_toArray, List.length_cons, List.length_nil, Nat.reduceAdd, Nat.reduceSub, Array.replicate_succ, Array.replicate_zero, List.push_toArray, List.append_toArray, List.nil_append, List.cons_append]
 gi_wp2_with (refine ⟨trivial, ?_⟩; first
  | (gi_at_call 52; refine (callsIn_wide.2 HTh.out).mono ?_; rintro e w' ⟨rfl, q, rfl⟩)
  | (gi_at_call 55; refine (callsIn_wide.2 (HW.out q)).mono ?_; rintro e w2 ⟨rfl, hB2⟩))
 have hJ2 : J [] w2 := hJ _ _ _ none h0 ⟨hB2.os, hB2.tape, hB2.output, hB2.size, fun i hi _ => hB2.block i hi⟩ (fun r e => by cases e)
 have hk2 : Kc b Bn W w2 := kc_below hbl hBW hB2
 gi_loopw [3] (fun i wr => ∃ q : Nat, q ≤ N ∧ i = .int .i64 ((k + q : Nat) : Int) ∧ J (List.range q) wr ∧ Kc b Bn W wr)
  (fun i _ => k + N - (intOf i).toNat)
 case atStart => exact ⟨0, Nat.zero_le _, rfl, hJ2, hk2⟩
 case round =>
  obtain ⟨q, hq, rfl, hJs, hKr⟩ := hrel
  have cB : wr.cell? ⟨Bn, 0, none⟩ = some (.pointer (some ⟨b, 0, none⟩)) := (World.cell?_of_block hKr.1).trans hBn
  have c6r : wr.cell? ⟨b, 6, none⟩ = some (.int .i64 (cur : Int)) := hKr.2.trans c6
  clear hBn c6 hB2
  by_cases hlt : q < N
  · obtain ⟨y, Y⟩ : ∃ y, Hid (((k + q : Nat) : Int) = y) := ⟨_, rfl⟩
    have hd : ((k + q : Nat) : Int) < (cur : Int) := by omega
    have hwr : IntKind.i64.wrap (((k + q : Nat) : Int) + 1) = ((k + q : Nat) : Int) + 1 := IntWalk.i64_in _ (by omega)
    rw [Y.out] at hd hwr ⊢
    have hY1 := hY _ q _ hJs (by rw [List.length_range]; exact hlt)
    rw [show fAt k N q = k + q by unfold fAt; omega, Y.out] at hY1
    obtain ⟨fn, tmps, assign, body, hy, hR⟩ := hY1
    gi_wp2
    refine hR.mono ?_
    rintro e W3 (⟨rfl, hJ3, hk3⟩ | ⟨rfl, hJx3⟩)
    · gi_wp2
      go_roundw
      case rel => exact ⟨q + 1, by omega, by rw [← Y.out]; congr 1, by rw [List.range_succ]; exact hJ3, kc_t hKr hk3⟩
      case measure => have := Y.out; simp [intOf]; omega
    · gi_wp2
      refine bodyPost_ret (results_none rfl _ _ _) rfl ?_
      exact ⟨⟨_, rfl⟩, .inr ⟨_, ⟨q + 1, by omega, by rw [List.range_succ]⟩, hJx3⟩⟩
  · obtain rfl : q = N := by omega
    have hd : ¬ ((k + q : Nat) : Int) < (cur : Int) := by omega
    gi_wp2
    go_end0
    exact ⟨⟨_, rfl⟩, .inl hJs⟩

set_option maxHeartbeats 2000000 in
theorem again1_no (n : Nat) (hn : 1 ≤ n) (l Bn : Nat) (J : List Nat → World → Prop)
 (W : World) (h : CP W n₀ b bf FF bs ao cap d wi me m cur fi L) (hm : me < 2) (hw : Fd.wrong (m (1 - me)) = none) (hJ : AbidesFrom W.heap.size J)
 (hBn : W.cell? ⟨Bn, 0, none⟩ = some (.pointer (some ⟨b, 0, none⟩))) (h0 : J [] W) :
 CallsIn Fence.wide n Tryz.prog 87 #[.func (.yield l) #[] #[], .pointer (some ⟨Bn, 0, none⟩)] W fun e W' => (∃ v, e = .returned v) ∧ J [] W' := by
 have HTh := hid (theirs_c (Cz.self h) hm)
 have HW := hid (fun q => wrong_q h hm W (Below.refl _ _) q)
 rw [hw] at HW
 clear h hw
 refine callsIn_of_wp Tryz.func87 rfl trivial ?_ rfl
 simp only [Tryz.ntmps87, List.size_toArray, List.length_cons, List.length_nil, Nat.reduceAdd, Nat.reduceSub, Array.replicate_succ, Array.replicate_zero, List.push_toArray, List.append_toArray, List.nil_append, List.cons_append]
 gi_wp2_with (refine ⟨trivial, ?_⟩; first
  | (gi_at_call 52; refine (callsIn_wide.2 HTh.out).mono ?_; rintro e w' ⟨rfl, q, rfl⟩)
  | (gi_at_call 55; refine (callsIn_wide.2 (HW.out q)).mono ?_; rintro e w2 ⟨rfl, hB2⟩))
 refine bodyPost_ret (results_none rfl _ _ _) rfl ?_
 exact ⟨⟨_, rfl⟩, hJ _ _ _ none h0 ⟨hB2.os, hB2.tape, hB2.output, hB2.size, fun i hi _ => hB2.block i hi⟩ (fun r e => by cases e)⟩

theorem again_in (n : Nat) (p0 : Value) (hp : ∃ x, p0 = .pointer x) (w : World) :
 CallsIn Fence.wide n Tryz.prog 53 #[p0] w fun e w' => e = .returned (.func (.func 87) #[] #[.pointer (some ⟨w.heap.size, 0, none⟩)]) ∧ w' = w.alloc (.cells #[p0] 27) := by
 obtain ⟨x, rfl⟩ := hp
 refine callsIn_of_wp Tryz.func53 rfl trivial ?_ rfl
 simp only [Tryz.ntmps53, List.size_toArray, List.length_cons, List.length_nil, Nat.reduceAdd, Nat.reduceSub, Array.replicate_succ, Array.replicate_zero, List.push_toArray, List.append_toArray, List.nil_append, List.cons_append]
 gi_wp2
 go_ret
 exact ⟨rfl, rfl⟩

/-- from which frame on, and how many, are to be played again. -/
def kW (m : FD) : Nat := match Fd.wrong m with | some k => k | none => 0
def nW (m : FD) (cur : Nat) : Nat := match Fd.wrong m with | some k => cur - k | none => 0
theorem again_stops (n : Nat) (hn : 1 ≤ n) (Bn : Nat) (w : World) (h : CP w n₀ b bf FF bs ao cap d wi me m cur fi L) (hm : me < 2) (hcur : cur ≤ 1073741825) (hk : ∀ k, Fd.wrong (m (1 - me)) = some k → k ≤ cur) (hBn : Bn < w.heap.size)
 (hc : w.cell? ⟨Bn, 0, none⟩ = some (.pointer (some ⟨b, 0, none⟩))) :
 SeqStopsK Fence.wide n Tryz.prog 87 #[.pointer (some ⟨Bn, 0, none⟩)] (fun x : Nat => #[Value.int .i64 ((fAt (kW (m (1 - me))) (nW (m (1 - me)) cur) x : Nat) : Int)]) (Kc b Bn) (fun ys => ys = List.range (nW (m (1 - me)) cur)) (fun pre => pre <+: List.range (nW (m (1 - me)) cur)) (nW (m (1 - me)) cur) w := fun l J Jx W hW hJ _ hY h0 => by
 have hc' := (hW.cell (p := ⟨Bn, 0, none⟩) hBn).trans hc
 have hsz := hW.size
 cases hw : Fd.wrong (m (1 - me)) with
 | none =>
  have e : nW (m (1 - me)) cur = 0 := by unfold nW; rw [hw]
  exact (again1_no n hn l Bn J W (h.old hW) hm hw hJ hc' h0).mono fun e' W' ⟨he, hj⟩ => ⟨he, .inl ⟨_, by rw [e]; rfl, hj⟩⟩
 | some k =>
  have e : nW (m (1 - me)) cur = cur - k := by unfold nW; rw [hw]
  have e2 : kW (m (1 - me)) = k := by unfold kW; rw [hw]
  have hkc := hk k hw
  rw [e, e2] at hY
  rw [e]
  refine (again1_yes n hn l Bn k (cur - k) J Jx W (h.old hW) hm hw (by omega) hcur (by omega) hJ hY hc' h0).mono ?_
  rintro e' W' ⟨he, ⟨ys, rfl, hj⟩ | ⟨pre, ⟨q, hq, rfl⟩, hj⟩⟩
  · exact ⟨he, .inl ⟨_, rfl, hj⟩⟩
  · refine ⟨he, .inr ⟨_, ?_, hj⟩⟩
    rw [show List.range q = (List.range (cur - k)).take q by rw [List.take_range]; congr 1; omega]
    exact List.take_prefix _ _
end
end Go.Proofs.YtfclnhmijjlhdaaGreatDoor.Cr
