/- A walk through a state (layer 13, freeze). -/
import Derived.Test.YthbncbdnpeglfaaFzSt
import Derived.Test.YthbncbdnpeglfaaFzFl
import Derived.IntWalk
namespace Go.Proofs.Ythbncbdnpeglfaa.Fz
open Go.RowKit
open Go.Proofs.Ythbncbdnpeglfaa.Ev (At)
open Go.Proofs.Ythbncbdnpeglfaa.Gm (hid Pl Bu St plC buC stC zeroP zeroB zeroS plS setP shS setS shC shC_len stC_sh0 wpList_load_at run_loadVar_at takeW)
open Go.Proofs.Ythbncbdnpeglfaa.Pk (numL rdN sgnN unsN)
set_option linter.unusedVariables false

theorem len_i64 (k : Bool) (σ : List UInt8) (x : Int) : (i64W k σ x).2.length ≤ σ.length + 10 := len_N k σ _ (by omega)
theorem len_u32 (k : Bool) (σ : List UInt8) (x : Int) : (u32W k σ x).2.length ≤ σ.length + 10 := len_N k σ _ (by omega)
theorem len_i32 (k : Bool) (σ : List UInt8) (x : Int) (h : R32 x) : (i32W k σ x).2.length ≤ σ.length + 10 := len_Z k σ x (by unfold R32 at h; omega) (by unfold R32 at h; omega)
theorem len_nb (k : Bool) (σ : List UInt8) (x : Nat) : (nxB k σ x).2.length ≤ σ.length + 1 := by
  cases k
  · show (σ ++ [_]).length ≤ _
    simp
  · show (σ.drop 1).length ≤ _
    rw [List.length_drop]; omega
theorem len_fr (k : Bool) (q : W) : (frW k q).2.length ≤ q.2.length + 10 := len_i64 _ _ _
theorem len_di (k : Bool) (q : W) : (diW k q).2.length ≤ q.2.length + 10 := len_u32 _ _ _
theorem len_rl (k : Bool) (q : W) : (rlW k q).2.length ≤ q.2.length + 20 := by
  have a := len_i64 k q.2 q.1.rd
  have b := len_i64 k (i64W k q.2 q.1.rd).2 q.1.lf
  show (i64W k (i64W k q.2 q.1.rd).2 q.1.lf).2.length ≤ _
  omega
theorem len_pv (k : Bool) (t : Nat) (q : W) (h : Ty q.1) : (pvW k t q).2.length ≤ q.2.length + 40 := by
  obtain ⟨h1, h2, h3, h4⟩ := (h.pl t).1
  have a := len_i32 k q.2 _ h1
  have b := len_i32 k (i32W k q.2 (plS q.1 t).ax).2 _ h2
  have c := len_i32 k (i32W k (i32W k q.2 (plS q.1 t).ax).2 (plS q.1 t).ay).2 _ h3
  have d := len_i32 k (i32W k (i32W k (i32W k q.2 (plS q.1 t).ax).2 (plS q.1 t).ay).2 (plS q.1 t).vx).2 _ h4
  show (i32W k (i32W k (i32W k (i32W k q.2 (plS q.1 t).ax).2 (plS q.1 t).ay).2 (plS q.1 t).vx).2 (plS q.1 t).vy).2.length ≤ _
  omega
theorem len_sv (k : Bool) (t : Nat) (q : W) (h : Ty q.1) : (svW k t q).2.length ≤ q.2.length + 40 := by
  obtain ⟨h1, h2, h3, h4⟩ := (h.sh t).1
  have a := len_i32 k q.2 _ h1
  have b := len_i32 k (i32W k q.2 (shS q.1 t).ax).2 _ h2
  have c := len_i32 k (i32W k (i32W k q.2 (shS q.1 t).ax).2 (shS q.1 t).ay).2 _ h3
  have d := len_i32 k (i32W k (i32W k (i32W k q.2 (shS q.1 t).ax).2 (shS q.1 t).ay).2 (shS q.1 t).vx).2 _ h4
  show (i32W k (i32W k (i32W k (i32W k q.2 (shS q.1 t).ax).2 (shS q.1 t).ay).2 (shS q.1 t).vx).2 (shS q.1 t).vy).2.length ≤ _
  omega
theorem len_pn (k : Bool) (t : Nat) (q : W) : (pnW k t q).2.length ≤ q.2.length + 60 := by
  have e : ∀ p : Pl × List UInt8, (plN k p).2.length ≤ p.2.length + 60 := by
    intro p
    unfold plN
    dsimp only
    generalize hf1 : i64W k p.2 p.1.fa = r1
    have l1 := len_i64 k p.2 p.1.fa; rw [hf1] at l1
    generalize hf2 : i64W k r1.2 p.1.hp = r2
    have l2 := len_i64 k r1.2 p.1.hp; rw [hf2] at l2
    generalize hf3 : i64W k r2.2 p.1.co = r3
    have l3 := len_i64 k r2.2 p.1.co; rw [hf3] at l3
    generalize hf4 : i64W k r3.2 p.1.wi = r4
    have l4 := len_i64 k r3.2 p.1.wi; rw [hf4] at l4
    generalize hf5 : i64W k r4.2 p.1.dn = r5
    have l5 := len_i64 k r4.2 p.1.dn; rw [hf5] at l5
    have l6 := len_i64 k r5.2 p.1.sc
    omega
  exact e (plS q.1 t, q.2)
theorem len_sn (k : Bool) (t : Nat) (q : W) : (snW k t q).2.length ≤ q.2.length + 20 := by
  have a := len_i64 k q.2 (shS q.1 t).ow
  have b := len_i64 k (i64W k q.2 (shS q.1 t).ow).2 (shS q.1 t).li
  show (i64W k (i64W k q.2 (shS q.1 t).ow).2 (shS q.1 t).li).2.length ≤ _
  omega
theorem len_ps (k : Bool) (q : W) (h : Ty q.1) : ∀ t, (psW k q t).2.length ≤ q.2.length + 100 * t
  | 0 => Nat.le_refl _
  | t + 1 => by
    have a := len_ps k q h t
    have b := len_pv k t (psW k q t) (ty_ps h t)
    have c := len_pn k t (pvW k t (psW k q t))
    show (pnW k t (pvW k t (psW k q t))).2.length ≤ _
    omega
theorem len_s (k : Bool) (n : Nat) (q : W) (t : Nat) (h : Ty q.1) : (sW k n q t).2.length ≤ q.2.length + 60 := by
  unfold sW
  split
  · omega
  · have b := len_sv k t q h
    have c := len_sn k t (svW k t q)
    omega
theorem len_ss (k : Bool) (n : Nat) (q : W) (h : Ty q.1) : ∀ t, (sWs k n q t).2.length ≤ q.2.length + 60 * t
  | 0 => Nat.le_refl _
  | t + 1 => by
    have a := len_ss k n q h t
    have b := len_s k n (sWs k n q t) t (ty_ss h t)
    show (sW k n (sWs k n q t) t).2.length ≤ _
    omega

theorem bits_byte (k : Bool) (σ : List UInt8) (x : Nat) (hx : x < 256) : (nxB k σ x).1 < 256 := by
  cases k
  · exact hx
  · cases σ with
    | nil => show 0 < 256; decide
    | cons c r => exact c.toNat_lt
theorem bit_and : ∀ t : Nat, t < 6 → ∀ m : Nat, m < 256 → bits .and .u8 ((m : Int) / 2 ^ t) 1 = ((m / 2 ^ t % 2 : Nat) : Int) := by decide +kernel
theorem exec_load_at {P : Program} {o : Oper} {ev : Operand → Value} (w : World) (ty : TypeId) (x : Operand) (ho : o.op = .load ty x)
    (g k : Nat) (hx : ev x = .pointer (some ⟨g, k, none⟩)) (t : TypeId) (cs : Array Value) (vs : List Value) (fr : Nat × Nat) (d : TypeDesc) (hg : w.heap[g]? = some (.cells cs t fr))
    (hu : P.underlying ty = some d) (hd : (match d with | .struct _ | .array _ _ => true | _ => false) = true) (hi : (P.info? ty).map (·.size) = some vs.length) (hv : ∀ j v, vs[j]? = some v → cs[k + j]? = some v) :
    (execOp ev o).run P w = .ok (.value (.agg vs.toArray)) w := by
  unfold execOp
  simp only [ho, hx, Instr.loadAt, Instr.sureAddr, Sem.run_bind, Sem.run_pure, Result.andThen_ok, run_loadVar_at w g k t ty cs vs fr d hg hu hd hi hv]

set_option maxRecDepth 100000 in
set_option maxHeartbeats 4000000 in
theorem walkW_c (n q b : Nat) (s : St) (σ : List UInt8) (w : World) (hW : Wk false n q σ w) (hb : At w b (stC s).toArray 33) (hnb : n ≤ b) (hT : Ty s) (hl : σ.length ≤ 1073700000) :
    Calls Try.prog 17 #[.iface 60 (.pointer (some ⟨q, 0, none⟩)), .pointer (some ⟨b, 0, none⟩)] w fun e w' => e = .returned (.tuple #[]) ∧ Wk false n q (walkW false (s, σ)).2 w' ∧ At w' b (stC (walkW false (s, σ)).1).toArray 33 ∧ Below n w w' := by
  have HW0 := hid hW
  have HB0 := hid hb
  have HT0 := hid hT
  have HL := hid hl
  have HO0 := hid (Below.refl n w)
  clear hW hb hT hl
  go_enter Try.func17, Try.ntmps17
  go_upto_region 0 with fail
  have hg := Ev.bal (Ev.br w) (.cells #[.pointer (some ⟨b, 0, none⟩)] 88)
  have HGb := hid (At.new w #[.pointer (some ⟨b, 0, none⟩)] 88)
  have HWb := hid (HW0.out.below hg); have HBb := hid (HB0.out.below hg); have HOb := hid (HO0.out.trans (hg.mono HW0.out.1))
  clear hg
  go_upto_region 1 with (go_at_call 33; ((with_reducible refine (fr_W n q b w.heap.size s σ _ HWb.out HBb.out hnb HGb.out HT0.out (by have := HL.out; omega)).mono ?_); rintro e w1 ⟨rfl, hW, hB, hO⟩; have HW1 := hid hW; have HB1 := hid hB; have HO1 := hid (HOb.out.trans hO); clear hW hB hO))
  clear HWb HBb HOb HGb
  have HT1 := hid (ty_fr (k := false) (q := (s, σ)) HT0.out)
  have HL1 := hid (len_fr false (s, σ))
  have HQ : Hid (headW false (s, σ) = psW false (rlW false (diW false (frW false (s, σ)))) 2) := hid rfl
  generalize frW false (s, σ) = q1 at HW1 HB1 HT1 HL1 HQ
  obtain ⟨s1, σ1⟩ := q1
  dsimp only at HW1 HB1 HT1 HL1
  have hg := Ev.bal (Ev.br w1) (.cells #[.pointer (some ⟨b, 1, none⟩)] 90)
  have HGb := hid (At.new w1 #[.pointer (some ⟨b, 1, none⟩)] 90)
  have HWb := hid (HW1.out.below hg); have HBb := hid (HB1.out.below hg); have HOb := hid (HO1.out.trans (hg.mono HW1.out.1))
  clear hg
  go_upto_region 2 with (go_at_call 34; ((with_reducible refine (di_W n q b w1.heap.size s1 σ1 _ HWb.out HBb.out hnb HGb.out HT1.out (by have := HL.out; have := HL1.out; omega)).mono ?_); rintro e w2 ⟨rfl, hW, hB, hO⟩; have HW2 := hid hW; have HB2 := hid hB; have HO2 := hid (HOb.out.trans hO); clear hW hB hO))
  clear HWb HBb HOb HGb HW1 HB1 HO1 HB0 HW0 HO0
  have HT2 := hid (ty_di (k := false) (q := (s1, σ1)) HT1.out)
  have HL2 := hid (len_di false (s1, σ1))
  generalize diW false (s1, σ1) = q2 at HW2 HB2 HT2 HL2 HQ
  obtain ⟨s2, σ2⟩ := q2
  dsimp only at HW2 HB2 HT2 HL2
  have hg := Ev.bd1 (Ev.bal (Ev.br w2) (.cells #[.pointer (some ⟨b, 2, none⟩), .pointer (some ⟨b, 3, none⟩)] 88))
  have HGb := hid ((At.new w2 #[.pointer (some ⟨b, 2, none⟩), .pointer (some ⟨b, 3, none⟩)] 88).below (Ev.bd1 (Ev.br _)))
  have HWb := hid (HW2.out.below hg); have HBb := hid (HB2.out.below hg); have HOb := hid (HO2.out.trans (hg.mono HW2.out.1))
  clear hg
  go_region_with (go_at_call 33; ((with_reducible refine (rl_W n q b w2.heap.size s2 σ2 _ HWb.out HBb.out hnb HGb.out HT2.out (by have := HL.out; have := HL1.out; have := HL2.out; omega)).mono ?_); rintro e w3 ⟨rfl, hW, hB, hO⟩; have HW3 := hid hW; have HB3 := hid hB; have HO3 := hid (HOb.out.trans hO); clear hW hB hO))
  clear HWb HBb HOb HGb HW2 HB2 HO2
  have HT3 := hid (ty_rl (k := false) (q := (s2, σ2)) HT2.out)
  have HL3 := hid (show _ ≤ _ + 20 from len_rl false (s2, σ2))
  generalize rlW false (s2, σ2) = q3 at HW3 HB3 HT3 HL3 HQ
  have HL4 : Hid (q3.2.length ≤ σ.length + 40) := hid (by have := HL1.out; have := HL2.out; have := HL3.out; dsimp only at *; omega)
  clear HT0 HT1 HT2 HL1 HL2 HL3
  go_wp2_with fail
  go_loopw [30] (fun v wr => ∃ i : Nat, i ≤ 2 ∧ v = .int .i64 i ∧ Wk false n q (psW false q3 i).2 wr ∧ At wr b (stC (psW false q3 i).1).toArray 33 ∧ Below n w wr) (fun v _ => 2 - (intOf v).toNat)
  case atStart => exact ⟨0, Nat.zero_le _, rfl, HW3.out, HB3.out, HO3.out⟩
  case round =>
    obtain ⟨i, hi, rfl, hW, hB, hO⟩ := hrel
    have HW4 := hid hW; have HB4 := hid hB; have HO4 := hid hO; clear hW hB hO HW3 HB3 HO3
    by_cases hlt : i < 2
    · have hi0 : (0 : Int) ≤ (i : Int) := by omega
      have hi1 : (i : Int) < 2 := by omega
      have HT4 := hid (ty_ps (k := false) (q := q3) HT3.out i)
      have HL5 := hid (len_ps false q3 HT3.out i)
      have HE : Hid (psW false q3 (i + 1) = pnW false i (pvW false i (psW false q3 i))) := hid rfl
      generalize psW false q3 i = q4 at HW4 HB4 HT4 HL5 HE
      obtain ⟨s4, σ4⟩ := q4
      dsimp only at HW4 HB4 HT4 HL5
      go_upto_region 7 with fail
      have hg := Ev.bd1 (Ev.bal (Ev.br wr) (.cells #[.pointer (some ⟨b, 4 + i * 10, none⟩), .pointer (some ⟨b, 4 + i * 10 + 2, none⟩)] 93))
      have HGb := hid ((At.new wr #[.pointer (some ⟨b, 4 + i * 10, none⟩), .pointer (some ⟨b, 4 + i * 10 + 2, none⟩)] 93).below (Ev.bd1 (Ev.br _)))
      have HWb := hid (HW4.out.below hg); have HBb := hid (HB4.out.below hg); have HOb := hid (HO4.out.trans (hg.mono HW4.out.1))
      clear hg
      go_region_with (go_at_call 35; ((with_reducible refine (pv_W n q b wr.heap.size s4 σ4 _ i hlt HWb.out HBb.out hnb HGb.out HT4.out (by have := HL.out; have := HL4.out; have := HL5.out; omega)).mono ?_); rintro e w5 ⟨rfl, hW, hB, hO⟩; have HW5 := hid hW; have HB5 := hid hB; have HO5 := hid (HOb.out.trans hO); clear hW hB hO))
      clear HWb HBb HOb HGb HW4 HB4 HO4
      have HT5 := hid (ty_pv (k := false) (t := i) (q := (s4, σ4)) HT4.out)
      have HL6 := hid (len_pv false i (s4, σ4) HT4.out)
      generalize pvW false i (s4, σ4) = q5 at HW5 HB5 HT5 HL6 HE
      obtain ⟨s5, σ5⟩ := q5
      dsimp only at HW5 HB5 HT5 HL6
      go_upto_region 8 with fail
      have hg := Ev.bd1 (Ev.bal (Ev.br w5) (.cells #[.pointer (some ⟨b, 4 + i * 10 + 4, none⟩), .pointer (some ⟨b, 4 + i * 10 + 5, none⟩), .pointer (some ⟨b, 4 + i * 10 + 6, none⟩), .pointer (some ⟨b, 4 + i * 10 + 7, none⟩), .pointer (some ⟨b, 4 + i * 10 + 8, none⟩), .pointer (some ⟨b, 4 + i * 10 + 9, none⟩)] 88))
      have HGb := hid ((At.new w5 #[.pointer (some ⟨b, 4 + i * 10 + 4, none⟩), .pointer (some ⟨b, 4 + i * 10 + 5, none⟩), .pointer (some ⟨b, 4 + i * 10 + 6, none⟩), .pointer (some ⟨b, 4 + i * 10 + 7, none⟩), .pointer (some ⟨b, 4 + i * 10 + 8, none⟩), .pointer (some ⟨b, 4 + i * 10 + 9, none⟩)] 88).below (Ev.bd1 (Ev.br _)))
      have HWb := hid (HW5.out.below hg); have HBb := hid (HB5.out.below hg); have HOb := hid (HO5.out.trans (hg.mono HW5.out.1))
      clear hg
      go_region_with (go_at_call 33; ((with_reducible refine (pn_W n q b w5.heap.size s5 σ5 _ i hlt HWb.out HBb.out hnb HGb.out HT5.out (by have := HL.out; have := HL4.out; have := HL5.out; have := HL6.out; omega)).mono ?_); rintro e w6 ⟨rfl, hW, hB, hO⟩; have HW6 := hid hW; have HB6 := hid hB; have HO6 := hid (HOb.out.trans hO); clear hW hB hO))
      clear HWb HBb HOb HGb HW5 HB5 HO5
      have HE2 := HE.out.symm
      have HW7 : Hid (Wk false n q (psW false q3 (i + 1)).2 w6) := hid (by rw [HE.out]; exact HW6.out)
      have HB7 : Hid (At w6 b (stC (psW false q3 (i + 1)).1).toArray 33) := hid (by rw [HE.out]; exact HB6.out)
      clear HE2 HE HW6 HB6 HL6 HL5 HT4 HT5
      go_wp2_with fail
      go_roundw
      case rel => exact ⟨i + 1, hlt, by go_num, HW7.out, HB7.out, HO6.out⟩
      case measure => simp [intOf]; omega
    · have hi2 : i = 2 := by omega
      subst hi2
      have HW8 : Hid (Wk false n q (headW false (s, σ)).2 wr) := hid (by rw [HQ.out]; exact HW4.out)
      have HB8 : Hid (At wr b (stC (headW false (s, σ)).1).toArray 33) := hid (by rw [HQ.out]; exact HB4.out)
      have HT8 : Hid (Ty (headW false (s, σ)).1) := hid (by rw [HQ.out]; exact ty_ps HT3.out 2)
      have HL8 : Hid ((headW false (s, σ)).2.length ≤ σ.length + 240) := hid (by rw [HQ.out]; have := len_ps false q3 HT3.out 2; have := HL4.out; omega)
      have HX : Hid (walkW false (s, σ) = sWs false (nxB false (headW false (s, σ)).2 (bitsN (headW false (s, σ)).1)).1 ((headW false (s, σ)).1, (nxB false (headW false (s, σ)).2 (bitsN (headW false (s, σ)).1)).2) 6) := hid rfl
      clear HW4 HB4 HQ HT3 HL4
      generalize headW false (s, σ) = q8 at HW8 HB8 HT8 HL8 HX
      obtain ⟨s8, σ8⟩ := q8
      dsimp only at HW8 HB8 HT8 HL8 HX
      go_upto_region 10 with fail
      have hbl := bitsT_lt s8 6
      have hbn : bitsN s8 < 256 := Nat.lt_of_lt_of_le hbl (by decide)
      go_cut [6] (fun s6 wx => s6 = .int .u8 ((nxB false σ8 (bitsN s8)).1 : Int) ∧ Wk false n q (nxB false σ8 (bitsN s8)).2 wx ∧ At wx b (stC s8).toArray 33 ∧ Below n w wx)
      case first =>
        have HWd := hid (HW8.out.below (Ev.bd1 (Ev.br wr)))
        have HBd := hid (HB8.out.below (Ev.bd1 (Ev.br wr)))
        have HOd := hid (HO4.out.trans ((Ev.bd1 (Ev.br wr)).mono HW8.out.1))
        have NA : ∀ (a : Addr) (W : World), (nilAhead 244 60 (.pointer (some a)) "promptbook/freeze.bits").run Try.prog W = .ok (some false) W := fun a W => by kernel_rfl
        have MN : ∀ (a : Addr) (W : World), (method 244 60 (.pointer (some a)) "promptbook/freeze.bits").run Try.prog W = .ok (71, .pointer (some a)) W := fun a W => by kernel_rfl
        refine wp_region_noPanic ?_
        refine wp_region_held_drew (S := (fun W => At W b (stC s8).toArray 33)) (by kernel_rfl) HBd.out (fun hHeld => ?_)
        generalize World.drew _ = wz at HWd HBd HOd hHeld ⊢
        (refine takeW (i := 0) (d := 69) (v := ?_) rfl rfl (by kernel_rfl) (by kernel_rfl) (by kernel_rfl) (fun _ _ _ h => h) (by rfl) ?_ (by assumption) ?_)
        rotate_left
        · (intro W hSW; go_simp; (try with_reducible rfl))
        simp only [Act.put, List.setIfInBounds_toArray, List.set_cons_zero, List.set_cons_succ]
        (refine takeW (i := 1) (d := 70) (v := ?_) rfl rfl (by kernel_rfl) (by kernel_rfl) (by kernel_rfl) (fun _ _ _ h => h) (by rfl) ?_ (by assumption) ?_)
        rotate_left
        · (intro W hSW; go_simp; (try with_reducible rfl))
        simp only [Act.put, List.setIfInBounds_toArray, List.set_cons_zero, List.set_cons_succ]
        (refine takeW (i := 2) (d := 71) (v := ?_) rfl rfl (by kernel_rfl) (by kernel_rfl) (by kernel_rfl) (fun _ _ _ h => h) (by rfl) ?_ (by assumption) ?_)
        rotate_left
        · (intro W hSW; go_simp; (try with_reducible rfl))
        simp only [Act.put, List.setIfInBounds_toArray, List.set_cons_zero, List.set_cons_succ]
        (refine takeW (i := 3) (d := 72) (v := ?_) rfl rfl (by kernel_rfl) (by kernel_rfl) (by kernel_rfl) (fun _ _ _ h => h) (by rfl) ?_ (by assumption) ?_)
        rotate_left
        · (intro W hSW; go_simp; (try with_reducible rfl))
        simp only [Act.put, List.setIfInBounds_toArray, List.set_cons_zero, List.set_cons_succ]
        (refine takeW (i := 4) (d := 73) (v := .agg (shC s8).toArray) rfl rfl (by kernel_rfl) (by kernel_rfl) (by kernel_rfl) (fun _ _ _ h => h) (by rfl) ?_ (by assumption) ?_)
        · (intro W hSW; exact exec_load_at W 31 _ rfl b 24 rfl 33 _ (shC s8) (0, 0) _ hSW Try.underlying31 rfl (by kernel_rfl) (stC_sh0 s8))
        simp only [Act.put, List.setIfInBounds_toArray, List.set_cons_zero, List.set_cons_succ]
        refine wpAnyH_ready (rs := [5, 6]) (by kernel_rfl) (by simp) ?_
        refine AllReadyH.cons (i := 5) rfl (fun K hKK => ?_) (AllReadyH.cons (i := 6) rfl (fun K hKK => ?_) AllReadyH.nil)
        · go_simp
          ((with_reducible refine (flying_c s8 _).mono ?_); rintro e wf ⟨rfl, hF⟩; have HWf := hid (HWd.out.below hF); have HBf := hid (HBd.out.below hF); have HOf := hid (HOd.out.trans (hF.mono HWd.out.1)); clear hF)
          (try dsimp only)
          refine hKK.out _ _ HBf.out (fun hHeld => ?_)
          clear hKK K
          (try simp only [Act.put, List.setIfInBounds_toArray, List.set_cons_zero, List.set_cons_succ])
          refine wpAnyH_ready (rs := [6]) (by kernel_rfl) (by simp) ?_
          refine AllReadyH.cons (i := 6) rfl (fun K hKK => ?_) AllReadyH.nil
          go_simp
          (try dsimp only)
          refine hKK.out _ _ hHeld (fun hHeld => ?_)
          clear hKK K
          (try simp only [Act.put, List.setIfInBounds_toArray, List.set_cons_zero, List.set_cons_succ])
          (refine takeW (i := 7) (d := 76) (v := ?_) rfl rfl (by kernel_rfl) (by kernel_rfl) (by kernel_rfl) (fun _ _ _ h => h) (by rfl) ?_ (by assumption) ?_)
          rotate_left
          · (intro W hSW; go_simp; (try with_reducible rfl))
          simp only [Act.put, List.setIfInBounds_toArray, List.set_cons_zero, List.set_cons_succ]
          (refine takeW (i := 8) (d := 77) (v := ?_) rfl rfl (by kernel_rfl) (by kernel_rfl) (by kernel_rfl) (fun _ _ _ h => h) (by rfl) ?_ (by assumption) ?_)
          rotate_left
          · (intro W hSW; go_simp; (try with_reducible rfl))
          simp only [Act.put, List.setIfInBounds_toArray, List.set_cons_zero, List.set_cons_succ]
          refine wpAnyH_ready (rs := [9]) (by kernel_rfl) (by simp) ?_
          refine AllReadyH.cons (i := 9) rfl (fun K hKK => ?_) AllReadyH.nil
          go_simp
          ((with_reducible refine (bits_w n q σ8 _ (bitsN s8) _ rfl HWf.out hbn (by have := HL.out; have := HL8.out; omega)).mono ?_); rintro e wg ⟨rfl, hW, hK⟩; have HWg := hid hW; have HBg := hid (hK.oth b _ _ HBf.out (HWf.out.ne HBf.out (by decide) (by decide)) (by decide)); have HOg := hid (HOf.out.trans hK.old); clear hW hK)
          (try dsimp only)
          refine hKK.out _ _ HBg.out (fun hHeld => ?_)
          clear hKK K
          (try simp only [Act.put, List.setIfInBounds_toArray, List.set_cons_zero, List.set_cons_succ])
          (refine takeW (i := 10) (d := 6) (v := ?_) rfl rfl (by kernel_rfl) (by kernel_rfl) (by kernel_rfl) (fun _ _ _ h => h) (by rfl) ?_ (by assumption) ?_)
          rotate_left
          · (intro W hSW; go_simp; (try with_reducible rfl))
          simp only [Act.put, List.setIfInBounds_toArray, List.set_cons_zero, List.set_cons_succ]
          refine wpAnyH_done (by kernel_rfl) ?_ _
          refine NoPanic.normal ?_
          go_wp2_with fail
          go_meet
          case rel => exact ⟨rfl, HWg.out, HBg.out, HOg.out⟩
        · go_simp
          (try dsimp only)
          refine hKK.out _ _ hHeld (fun hHeld => ?_)
          clear hKK K
          (try simp only [Act.put, List.setIfInBounds_toArray, List.set_cons_zero, List.set_cons_succ])
          (refine takeW (i := 7) (d := 76) (v := ?_) rfl rfl (by kernel_rfl) (by kernel_rfl) (by kernel_rfl) (fun _ _ _ h => h) (by rfl) ?_ (by assumption) ?_)
          rotate_left
          · (intro W hSW; go_simp; (try with_reducible rfl))
          simp only [Act.put, List.setIfInBounds_toArray, List.set_cons_zero, List.set_cons_succ]
          (refine takeW (i := 8) (d := 77) (v := ?_) rfl rfl (by kernel_rfl) (by kernel_rfl) (by kernel_rfl) (fun _ _ _ h => h) (by rfl) ?_ (by assumption) ?_)
          rotate_left
          · (intro W hSW; go_simp; (try with_reducible rfl))
          simp only [Act.put, List.setIfInBounds_toArray, List.set_cons_zero, List.set_cons_succ]
          refine wpAnyH_ready (rs := [5]) (by kernel_rfl) (by simp) ?_
          refine AllReadyH.cons (i := 5) rfl (fun K hKK => ?_) AllReadyH.nil
          go_simp
          ((with_reducible refine (flying_c s8 _).mono ?_); rintro e wf ⟨rfl, hF⟩; have HWf := hid (HWd.out.below hF); have HBf := hid (HBd.out.below hF); have HOf := hid (HOd.out.trans (hF.mono HWd.out.1)); clear hF)
          (try dsimp only)
          refine hKK.out _ _ HBf.out (fun hHeld => ?_)
          clear hKK K
          (try simp only [Act.put, List.setIfInBounds_toArray, List.set_cons_zero, List.set_cons_succ])
          refine wpAnyH_ready (rs := [9]) (by kernel_rfl) (by simp) ?_
          refine AllReadyH.cons (i := 9) rfl (fun K hKK => ?_) AllReadyH.nil
          go_simp
          ((with_reducible refine (bits_w n q σ8 _ (bitsN s8) _ rfl HWf.out hbn (by have := HL.out; have := HL8.out; omega)).mono ?_); rintro e wg ⟨rfl, hW, hK⟩; have HWg := hid hW; have HBg := hid (hK.oth b _ _ HBf.out (HWf.out.ne HBf.out (by decide) (by decide)) (by decide)); have HOg := hid (HOf.out.trans hK.old); clear hW hK)
          (try dsimp only)
          refine hKK.out _ _ HBg.out (fun hHeld => ?_)
          clear hKK K
          (try simp only [Act.put, List.setIfInBounds_toArray, List.set_cons_zero, List.set_cons_succ])
          (refine takeW (i := 10) (d := 6) (v := ?_) rfl rfl (by kernel_rfl) (by kernel_rfl) (by kernel_rfl) (fun _ _ _ h => h) (by rfl) ?_ (by assumption) ?_)
          rotate_left
          · (intro W hSW; go_simp; (try with_reducible rfl))
          simp only [Act.put, List.setIfInBounds_toArray, List.set_cons_zero, List.set_cons_succ]
          refine wpAnyH_done (by kernel_rfl) ?_ _
          refine NoPanic.normal ?_
          go_wp2_with fail
          go_meet
          case rel => exact ⟨rfl, HWg.out, HBg.out, HOg.out⟩
      case rest =>
        obtain ⟨rfl, hW, hB, hO⟩ := hcut
        have HW9 := hid hW; have HB9 := hid hB; have HO9 := hid hO; clear hW hB hO HW8 HB8 HO4
        have HN : Hid ((nxB false σ8 (bitsN s8)).1 < 256) := hid (bits_byte false σ8 _ hbn)
        have HL9 := hid (len_nb false σ8 (bitsN s8))
        generalize nxB false σ8 (bitsN s8) = q9 at HW9 HB9 HN HL9 HX
        obtain ⟨nb, σ9⟩ := q9
        dsimp only at HW9 HB9 HN HL9 HX
        clear hbl hbn
        go_wp2_with fail
        go_loopw [79] (fun v wr => ∃ i : Nat, i ≤ 6 ∧ v = .int .i64 i ∧ Wk false n q (sWs false nb (s8, σ9) i).2 wr ∧ At wr b (stC (sWs false nb (s8, σ9) i).1).toArray 33 ∧ Below n w wr) (fun v _ => 6 - (intOf v).toNat)
        case atStart => exact ⟨0, Nat.zero_le _, rfl, HW9.out, HB9.out, HO9.out⟩
        case round =>
          obtain ⟨i, hi, rfl, hW, hB, hO⟩ := hrel
          have HWa := hid hW; have HBa := hid hB; have HOa := hid hO; clear hW hB hO HW9 HB9 HO9
          by_cases hlt : i < 6
          · have hi0 : (0 : Int) ≤ (i : Int) := by omega
            have hi1 : (i : Int) < 6 := by omega
            have HTa := hid (ty_ss (k := false) (n := nb) (q := (s8, σ9)) HT8.out i)
            have HLa := hid (len_ss false nb (s8, σ9) HT8.out i)
            have HE : Hid (sWs false nb (s8, σ9) (i + 1) = sW false nb (sWs false nb (s8, σ9) i) i) := hid rfl
            have HAnd := bit_and i hlt nb HN.out
            generalize sWs false nb (s8, σ9) i = qa at HWa HBa HTa HLa HE
            obtain ⟨sa, σa⟩ := qa
            dsimp only at HWa HBa HTa HLa
            by_cases hz : nb / 2 ^ i % 2 = 0
            · rw [hz] at HAnd
              have HE3 : Hid (sW false nb (sa, σa) i = (sa, σa)) := hid (if_pos hz)
              rw [HE3.out] at HE
              have HWb : Hid (Wk false n q (sWs false nb (s8, σ9) (i + 1)).2 wr) := hid (by rw [HE.out]; exact HWa.out)
              have HBb : Hid (At wr b (stC (sWs false nb (s8, σ9) (i + 1)).1).toArray 33) := hid (by rw [HE.out]; exact HBa.out)
              clear HWa HBa HTa HLa HE HE3
              go_wp2_with fail
              go_roundw
              case rel => exact ⟨i + 1, hlt, by go_num, HWb.out, HBb.out, HOa.out⟩
              case measure => simp [intOf]; omega
            · have hz1 : nb / 2 ^ i % 2 = 1 := by omega
              rw [hz1] at HAnd
              have HE3 : Hid (sW false nb (sa, σa) i = snW false i (svW false i (sa, σa))) := hid (if_neg hz)
              rw [HE3.out] at HE
              clear HE3 hz hz1
              go_upto_region 16 with fail
              have hg := Ev.bd1 (Ev.bal (Ev.br wr) (.cells #[.pointer (some ⟨b, 24 + i * 6, none⟩), .pointer (some ⟨b, 24 + i * 6 + 2, none⟩)] 93))
              have HGb := hid ((At.new wr #[.pointer (some ⟨b, 24 + i * 6, none⟩), .pointer (some ⟨b, 24 + i * 6 + 2, none⟩)] 93).below (Ev.bd1 (Ev.br _)))
              have HWb := hid (HWa.out.below hg); have HBb := hid (HBa.out.below hg); have HOb := hid (HOa.out.trans (hg.mono HWa.out.1))
              clear hg
              go_region_with (go_at_call 35; ((with_reducible refine (sv_W n q b wr.heap.size sa σa _ i hlt HWb.out HBb.out hnb HGb.out HTa.out (by have := HL.out; have := HL8.out; have := HL9.out; have := HLa.out; omega)).mono ?_); rintro e w5 ⟨rfl, hW, hB, hO⟩; have HWc := hid hW; have HBc := hid hB; have HOc := hid (HOb.out.trans hO); clear hW hB hO))
              clear HWb HBb HOb HGb HWa HBa HOa
              have HTc := hid (ty_sv (k := false) (t := i) (q := (sa, σa)) HTa.out)
              have HLc := hid (len_sv false i (sa, σa) HTa.out)
              generalize svW false i (sa, σa) = qc at HWc HBc HTc HLc HE
              obtain ⟨sc, σc⟩ := qc
              dsimp only at HWc HBc HTc HLc
              go_upto_region 17 with fail
              have hg := Ev.bd1 (Ev.bal (Ev.br w5) (.cells #[.pointer (some ⟨b, 24 + i * 6 + 4, none⟩), .pointer (some ⟨b, 24 + i * 6 + 5, none⟩)] 88))
              have HGb := hid ((At.new w5 #[.pointer (some ⟨b, 24 + i * 6 + 4, none⟩), .pointer (some ⟨b, 24 + i * 6 + 5, none⟩)] 88).below (Ev.bd1 (Ev.br _)))
              have HWb := hid (HWc.out.below hg); have HBb := hid (HBc.out.below hg); have HOb := hid (HOc.out.trans (hg.mono HWc.out.1))
              clear hg
              go_region_with (go_at_call 33; ((with_reducible refine (sn_W n q b w5.heap.size sc σc _ i hlt HWb.out HBb.out hnb HGb.out HTc.out (by have := HL.out; have := HL8.out; have := HL9.out; have := HLa.out; have := HLc.out; omega)).mono ?_); rintro e w6 ⟨rfl, hW, hB, hO⟩; have HWd := hid hW; have HBd := hid hB; have HOd := hid (HOb.out.trans hO); clear hW hB hO))
              clear HWb HBb HOb HGb HWc HBc HOc
              have HW7 : Hid (Wk false n q (sWs false nb (s8, σ9) (i + 1)).2 w6) := hid (by rw [HE.out]; exact HWd.out)
              have HB7 : Hid (At w6 b (stC (sWs false nb (s8, σ9) (i + 1)).1).toArray 33) := hid (by rw [HE.out]; exact HBd.out)
              clear HE HWd HBd HLa HLc HTa HTc
              go_wp2_with fail
              go_roundw
              case rel => first | exact ⟨i + 1, hlt, by go_num, HW7.out, HB7.out, HOd.out⟩ | ((repeat apply Exists.intro); exact ⟨⟨i + 1, hlt, by go_num, HW7.out, HB7.out, HOd.out⟩, rfl⟩)
              case measure => simp [intOf]; omega
          · have hi2 : i = 6 := by omega
            subst hi2
            have HWe : Hid (Wk false n q (walkW false (s, σ)).2 wr) := hid (by rw [HX.out]; exact HWa.out)
            have HBe : Hid (At wr b (stC (walkW false (s, σ)).1).toArray 33) := hid (by rw [HX.out]; exact HBa.out)
            clear HWa HBa HX
            go_wp2_with fail
            go_end0
            exact ⟨rfl, HWe.out, HBe.out, HOa.out⟩

set_option maxRecDepth 100000 in
set_option maxHeartbeats 4000000 in
theorem walkR_c (n q b : Nat) (s : St) (σ : List UInt8) (w : World) (hW : Wk true n q σ w) (hb : At w b (stC s).toArray 33) (hnb : n ≤ b) (hT : Ty s) (hl : σ.length ≤ 1073700000) :
    Calls Try.prog 17 #[.iface 68 (.pointer (some ⟨q, 0, none⟩)), .pointer (some ⟨b, 0, none⟩)] w fun e w' => e = .returned (.tuple #[]) ∧ Wk true n q (walkW true (s, σ)).2 w' ∧ At w' b (stC (walkW true (s, σ)).1).toArray 33 ∧ Below n w w' := by
  have HW0 := hid hW
  have HB0 := hid hb
  have HT0 := hid hT
  have HL := hid hl
  have HO0 := hid (Below.refl n w)
  clear hW hb hT hl
  go_enter Try.func17, Try.ntmps17
  go_upto_region 0 with fail
  have hg := Ev.bal (Ev.br w) (.cells #[.pointer (some ⟨b, 0, none⟩)] 88)
  have HGb := hid (At.new w #[.pointer (some ⟨b, 0, none⟩)] 88)
  have HWb := hid (HW0.out.below hg); have HBb := hid (HB0.out.below hg); have HOb := hid (HO0.out.trans (hg.mono HW0.out.1))
  clear hg
  go_upto_region 1 with (go_at_call 33; ((with_reducible refine (fr_R n q b w.heap.size s σ _ HWb.out HBb.out hnb HGb.out HT0.out (by have := HL.out; omega)).mono ?_); rintro e w1 ⟨rfl, hW, hB, hO⟩; have HW1 := hid hW; have HB1 := hid hB; have HO1 := hid (HOb.out.trans hO); clear hW hB hO))
  clear HWb HBb HOb HGb
  have HT1 := hid (ty_fr (k := true) (q := (s, σ)) HT0.out)
  have HL1 := hid (len_fr true (s, σ))
  have HQ : Hid (headW true (s, σ) = psW true (rlW true (diW true (frW true (s, σ)))) 2) := hid rfl
  generalize frW true (s, σ) = q1 at HW1 HB1 HT1 HL1 HQ
  obtain ⟨s1, σ1⟩ := q1
  dsimp only at HW1 HB1 HT1 HL1
  have hg := Ev.bal (Ev.br w1) (.cells #[.pointer (some ⟨b, 1, none⟩)] 90)
  have HGb := hid (At.new w1 #[.pointer (some ⟨b, 1, none⟩)] 90)
  have HWb := hid (HW1.out.below hg); have HBb := hid (HB1.out.below hg); have HOb := hid (HO1.out.trans (hg.mono HW1.out.1))
  clear hg
  go_upto_region 2 with (go_at_call 34; ((with_reducible refine (di_R n q b w1.heap.size s1 σ1 _ HWb.out HBb.out hnb HGb.out HT1.out (by have := HL.out; have := HL1.out; omega)).mono ?_); rintro e w2 ⟨rfl, hW, hB, hO⟩; have HW2 := hid hW; have HB2 := hid hB; have HO2 := hid (HOb.out.trans hO); clear hW hB hO))
  clear HWb HBb HOb HGb HW1 HB1 HO1 HB0 HW0 HO0
  have HT2 := hid (ty_di (k := true) (q := (s1, σ1)) HT1.out)
  have HL2 := hid (len_di true (s1, σ1))
  generalize diW true (s1, σ1) = q2 at HW2 HB2 HT2 HL2 HQ
  obtain ⟨s2, σ2⟩ := q2
  dsimp only at HW2 HB2 HT2 HL2
  have hg := Ev.bd1 (Ev.bal (Ev.br w2) (.cells #[.pointer (some ⟨b, 2, none⟩), .pointer (some ⟨b, 3, none⟩)] 88))
  have HGb := hid ((At.new w2 #[.pointer (some ⟨b, 2, none⟩), .pointer (some ⟨b, 3, none⟩)] 88).below (Ev.bd1 (Ev.br _)))
  have HWb := hid (HW2.out.below hg); have HBb := hid (HB2.out.below hg); have HOb := hid (HO2.out.trans (hg.mono HW2.out.1))
  clear hg
  go_region_with (go_at_call 33; ((with_reducible refine (rl_R n q b w2.heap.size s2 σ2 _ HWb.out HBb.out hnb HGb.out HT2.out (by have := HL.out; have := HL1.out; have := HL2.out; omega)).mono ?_); rintro e w3 ⟨rfl, hW, hB, hO⟩; have HW3 := hid hW; have HB3 := hid hB; have HO3 := hid (HOb.out.trans hO); clear hW hB hO))
  clear HWb HBb HOb HGb HW2 HB2 HO2
  have HT3 := hid (ty_rl (k := true) (q := (s2, σ2)) HT2.out)
  have HL3 := hid (show _ ≤ _ + 20 from len_rl true (s2, σ2))
  generalize rlW true (s2, σ2) = q3 at HW3 HB3 HT3 HL3 HQ
  have HL4 : Hid (q3.2.length ≤ σ.length + 40) := hid (by have := HL1.out; have := HL2.out; have := HL3.out; dsimp only at *; omega)
  clear HT0 HT1 HT2 HL1 HL2 HL3
  go_wp2_with fail
  go_loopw [30] (fun v wr => ∃ i : Nat, i ≤ 2 ∧ v = .int .i64 i ∧ Wk true n q (psW true q3 i).2 wr ∧ At wr b (stC (psW true q3 i).1).toArray 33 ∧ Below n w wr) (fun v _ => 2 - (intOf v).toNat)
  case atStart => exact ⟨0, Nat.zero_le _, rfl, HW3.out, HB3.out, HO3.out⟩
  case round =>
    obtain ⟨i, hi, rfl, hW, hB, hO⟩ := hrel
    have HW4 := hid hW; have HB4 := hid hB; have HO4 := hid hO; clear hW hB hO HW3 HB3 HO3
    by_cases hlt : i < 2
    · have hi0 : (0 : Int) ≤ (i : Int) := by omega
      have hi1 : (i : Int) < 2 := by omega
      have HT4 := hid (ty_ps (k := true) (q := q3) HT3.out i)
      have HL5 := hid (len_ps true q3 HT3.out i)
      have HE : Hid (psW true q3 (i + 1) = pnW true i (pvW true i (psW true q3 i))) := hid rfl
      generalize psW true q3 i = q4 at HW4 HB4 HT4 HL5 HE
      obtain ⟨s4, σ4⟩ := q4
      dsimp only at HW4 HB4 HT4 HL5
      go_upto_region 7 with fail
      have hg := Ev.bd1 (Ev.bal (Ev.br wr) (.cells #[.pointer (some ⟨b, 4 + i * 10, none⟩), .pointer (some ⟨b, 4 + i * 10 + 2, none⟩)] 93))
      have HGb := hid ((At.new wr #[.pointer (some ⟨b, 4 + i * 10, none⟩), .pointer (some ⟨b, 4 + i * 10 + 2, none⟩)] 93).below (Ev.bd1 (Ev.br _)))
      have HWb := hid (HW4.out.below hg); have HBb := hid (HB4.out.below hg); have HOb := hid (HO4.out.trans (hg.mono HW4.out.1))
      clear hg
      go_region_with (go_at_call 35; ((with_reducible refine (pv_R n q b wr.heap.size s4 σ4 _ i hlt HWb.out HBb.out hnb HGb.out HT4.out (by have := HL.out; have := HL4.out; have := HL5.out; omega)).mono ?_); rintro e w5 ⟨rfl, hW, hB, hO⟩; have HW5 := hid hW; have HB5 := hid hB; have HO5 := hid (HOb.out.trans hO); clear hW hB hO))
      clear HWb HBb HOb HGb HW4 HB4 HO4
      have HT5 := hid (ty_pv (k := true) (t := i) (q := (s4, σ4)) HT4.out)
      have HL6 := hid (len_pv true i (s4, σ4) HT4.out)
      generalize pvW true i (s4, σ4) = q5 at HW5 HB5 HT5 HL6 HE
      obtain ⟨s5, σ5⟩ := q5
      dsimp only at HW5 HB5 HT5 HL6
      go_upto_region 8 with fail
      have hg := Ev.bd1 (Ev.bal (Ev.br w5) (.cells #[.pointer (some ⟨b, 4 + i * 10 + 4, none⟩), .pointer (some ⟨b, 4 + i * 10 + 5, none⟩), .pointer (some ⟨b, 4 + i * 10 + 6, none⟩), .pointer (some ⟨b, 4 + i * 10 + 7, none⟩), .pointer (some ⟨b, 4 + i * 10 + 8, none⟩), .pointer (some ⟨b, 4 + i * 10 + 9, none⟩)] 88))
      have HGb := hid ((At.new w5 #[.pointer (some ⟨b, 4 + i * 10 + 4, none⟩), .pointer (some ⟨b, 4 + i * 10 + 5, none⟩), .pointer (some ⟨b, 4 + i * 10 + 6, none⟩), .pointer (some ⟨b, 4 + i * 10 + 7, none⟩), .pointer (some ⟨b, 4 + i * 10 + 8, none⟩), .pointer (some ⟨b, 4 + i * 10 + 9, none⟩)] 88).below (Ev.bd1 (Ev.br _)))
      have HWb := hid (HW5.out.below hg); have HBb := hid (HB5.out.below hg); have HOb := hid (HO5.out.trans (hg.mono HW5.out.1))
      clear hg
      go_region_with (go_at_call 33; ((with_reducible refine (pn_R n q b w5.heap.size s5 σ5 _ i hlt HWb.out HBb.out hnb HGb.out HT5.out (by have := HL.out; have := HL4.out; have := HL5.out; have := HL6.out; omega)).mono ?_); rintro e w6 ⟨rfl, hW, hB, hO⟩; have HW6 := hid hW; have HB6 := hid hB; have HO6 := hid (HOb.out.trans hO); clear hW hB hO))
      clear HWb HBb HOb HGb HW5 HB5 HO5
      have HE2 := HE.out.symm
      have HW7 : Hid (Wk true n q (psW true q3 (i + 1)).2 w6) := hid (by rw [HE.out]; exact HW6.out)
      have HB7 : Hid (At w6 b (stC (psW true q3 (i + 1)).1).toArray 33) := hid (by rw [HE.out]; exact HB6.out)
      clear HE2 HE HW6 HB6 HL6 HL5 HT4 HT5
      go_wp2_with fail
      go_roundw
      case rel => exact ⟨i + 1, hlt, by go_num, HW7.out, HB7.out, HO6.out⟩
      case measure => simp [intOf]; omega
    · have hi2 : i = 2 := by omega
      subst hi2
      have HW8 : Hid (Wk true n q (headW true (s, σ)).2 wr) := hid (by rw [HQ.out]; exact HW4.out)
      have HB8 : Hid (At wr b (stC (headW true (s, σ)).1).toArray 33) := hid (by rw [HQ.out]; exact HB4.out)
      have HT8 : Hid (Ty (headW true (s, σ)).1) := hid (by rw [HQ.out]; exact ty_ps HT3.out 2)
      have HL8 : Hid ((headW true (s, σ)).2.length ≤ σ.length + 240) := hid (by rw [HQ.out]; have := len_ps true q3 HT3.out 2; have := HL4.out; omega)
      have HX : Hid (walkW true (s, σ) = sWs true (nxB true (headW true (s, σ)).2 (bitsN (headW true (s, σ)).1)).1 ((headW true (s, σ)).1, (nxB true (headW true (s, σ)).2 (bitsN (headW true (s, σ)).1)).2) 6) := hid rfl
      clear HW4 HB4 HQ HT3 HL4
      generalize headW true (s, σ) = q8 at HW8 HB8 HT8 HL8 HX
      obtain ⟨s8, σ8⟩ := q8
      dsimp only at HW8 HB8 HT8 HL8 HX
      go_upto_region 10 with fail
      have hbl := bitsT_lt s8 6
      have hbn : bitsN s8 < 256 := Nat.lt_of_lt_of_le hbl (by decide)
      go_cut [6] (fun s6 wx => s6 = .int .u8 ((nxB true σ8 (bitsN s8)).1 : Int) ∧ Wk true n q (nxB true σ8 (bitsN s8)).2 wx ∧ At wx b (stC s8).toArray 33 ∧ Below n w wx)
      case first =>
        have HWd := hid (HW8.out.below (Ev.bd1 (Ev.br wr)))
        have HBd := hid (HB8.out.below (Ev.bd1 (Ev.br wr)))
        have HOd := hid (HO4.out.trans ((Ev.bd1 (Ev.br wr)).mono HW8.out.1))
        have NA : ∀ (a : Addr) (W : World), (nilAhead 244 68 (.pointer (some a)) "promptbook/freeze.bits").run Try.prog W = .ok (some false) W := fun a W => by kernel_rfl
        have MN : ∀ (a : Addr) (W : World), (method 244 68 (.pointer (some a)) "promptbook/freeze.bits").run Try.prog W = .ok (81, .pointer (some a)) W := fun a W => by kernel_rfl
        refine wp_region_noPanic ?_
        refine wp_region_held_drew (S := (fun W => At W b (stC s8).toArray 33)) (by kernel_rfl) HBd.out (fun hHeld => ?_)
        generalize World.drew _ = wz at HWd HBd HOd hHeld ⊢
        (refine takeW (i := 0) (d := 69) (v := ?_) rfl rfl (by kernel_rfl) (by kernel_rfl) (by kernel_rfl) (fun _ _ _ h => h) (by rfl) ?_ (by assumption) ?_)
        rotate_left
        · (intro W hSW; go_simp; (try with_reducible rfl))
        simp only [Act.put, List.setIfInBounds_toArray, List.set_cons_zero, List.set_cons_succ]
        (refine takeW (i := 1) (d := 70) (v := ?_) rfl rfl (by kernel_rfl) (by kernel_rfl) (by kernel_rfl) (fun _ _ _ h => h) (by rfl) ?_ (by assumption) ?_)
        rotate_left
        · (intro W hSW; go_simp; (try with_reducible rfl))
        simp only [Act.put, List.setIfInBounds_toArray, List.set_cons_zero, List.set_cons_succ]
        (refine takeW (i := 2) (d := 71) (v := ?_) rfl rfl (by kernel_rfl) (by kernel_rfl) (by kernel_rfl) (fun _ _ _ h => h) (by rfl) ?_ (by assumption) ?_)
        rotate_left
        · (intro W hSW; go_simp; (try with_reducible rfl))
        simp only [Act.put, List.setIfInBounds_toArray, List.set_cons_zero, List.set_cons_succ]
        (refine takeW (i := 3) (d := 72) (v := ?_) rfl rfl (by kernel_rfl) (by kernel_rfl) (by kernel_rfl) (fun _ _ _ h => h) (by rfl) ?_ (by assumption) ?_)
        rotate_left
        · (intro W hSW; go_simp; (try with_reducible rfl))
        simp only [Act.put, List.setIfInBounds_toArray, List.set_cons_zero, List.set_cons_succ]
        (refine takeW (i := 4) (d := 73) (v := .agg (shC s8).toArray) rfl rfl (by kernel_rfl) (by kernel_rfl) (by kernel_rfl) (fun _ _ _ h => h) (by rfl) ?_ (by assumption) ?_)
        · (intro W hSW; exact exec_load_at W 31 _ rfl b 24 rfl 33 _ (shC s8) (0, 0) _ hSW Try.underlying31 rfl (by kernel_rfl) (stC_sh0 s8))
        simp only [Act.put, List.setIfInBounds_toArray, List.set_cons_zero, List.set_cons_succ]
        refine wpAnyH_ready (rs := [5, 6]) (by kernel_rfl) (by simp) ?_
        refine AllReadyH.cons (i := 5) rfl (fun K hKK => ?_) (AllReadyH.cons (i := 6) rfl (fun K hKK => ?_) AllReadyH.nil)
        · go_simp
          ((with_reducible refine (flying_c s8 _).mono ?_); rintro e wf ⟨rfl, hF⟩; have HWf := hid (HWd.out.below hF); have HBf := hid (HBd.out.below hF); have HOf := hid (HOd.out.trans (hF.mono HWd.out.1)); clear hF)
          (try dsimp only)
          refine hKK.out _ _ HBf.out (fun hHeld => ?_)
          clear hKK K
          (try simp only [Act.put, List.setIfInBounds_toArray, List.set_cons_zero, List.set_cons_succ])
          refine wpAnyH_ready (rs := [6]) (by kernel_rfl) (by simp) ?_
          refine AllReadyH.cons (i := 6) rfl (fun K hKK => ?_) AllReadyH.nil
          go_simp
          (try dsimp only)
          refine hKK.out _ _ hHeld (fun hHeld => ?_)
          clear hKK K
          (try simp only [Act.put, List.setIfInBounds_toArray, List.set_cons_zero, List.set_cons_succ])
          (refine takeW (i := 7) (d := 76) (v := ?_) rfl rfl (by kernel_rfl) (by kernel_rfl) (by kernel_rfl) (fun _ _ _ h => h) (by rfl) ?_ (by assumption) ?_)
          rotate_left
          · (intro W hSW; go_simp; (try with_reducible rfl))
          simp only [Act.put, List.setIfInBounds_toArray, List.set_cons_zero, List.set_cons_succ]
          (refine takeW (i := 8) (d := 77) (v := ?_) rfl rfl (by kernel_rfl) (by kernel_rfl) (by kernel_rfl) (fun _ _ _ h => h) (by rfl) ?_ (by assumption) ?_)
          rotate_left
          · (intro W hSW; go_simp; (try with_reducible rfl))
          simp only [Act.put, List.setIfInBounds_toArray, List.set_cons_zero, List.set_cons_succ]
          refine wpAnyH_ready (rs := [9]) (by kernel_rfl) (by simp) ?_
          refine AllReadyH.cons (i := 9) rfl (fun K hKK => ?_) AllReadyH.nil
          go_simp
          ((with_reducible refine (bits_r n q σ8 _ (bitsN s8) _ rfl HWf.out hbn (by have := HL.out; have := HL8.out; omega)).mono ?_); rintro e wg ⟨rfl, hW, hK⟩; have HWg := hid hW; have HBg := hid (hK.oth b _ _ HBf.out (HWf.out.ne HBf.out (by decide) (by decide)) (by decide)); have HOg := hid (HOf.out.trans hK.old); clear hW hK)
          (try dsimp only)
          refine hKK.out _ _ HBg.out (fun hHeld => ?_)
          clear hKK K
          (try simp only [Act.put, List.setIfInBounds_toArray, List.set_cons_zero, List.set_cons_succ])
          (refine takeW (i := 10) (d := 6) (v := ?_) rfl rfl (by kernel_rfl) (by kernel_rfl) (by kernel_rfl) (fun _ _ _ h => h) (by rfl) ?_ (by assumption) ?_)
          rotate_left
          · (intro W hSW; go_simp; (try with_reducible rfl))
          simp only [Act.put, List.setIfInBounds_toArray, List.set_cons_zero, List.set_cons_succ]
          refine wpAnyH_done (by kernel_rfl) ?_ _
          refine NoPanic.normal ?_
          go_wp2_with fail
          go_meet
          case rel => exact ⟨rfl, HWg.out, HBg.out, HOg.out⟩
        · go_simp
          (try dsimp only)
          refine hKK.out _ _ hHeld (fun hHeld => ?_)
          clear hKK K
          (try simp only [Act.put, List.setIfInBounds_toArray, List.set_cons_zero, List.set_cons_succ])
          (refine takeW (i := 7) (d := 76) (v := ?_) rfl rfl (by kernel_rfl) (by kernel_rfl) (by kernel_rfl) (fun _ _ _ h => h) (by rfl) ?_ (by assumption) ?_)
          rotate_left
          · (intro W hSW; go_simp; (try with_reducible rfl))
          simp only [Act.put, List.setIfInBounds_toArray, List.set_cons_zero, List.set_cons_succ]
          (refine takeW (i := 8) (d := 77) (v := ?_) rfl rfl (by kernel_rfl) (by kernel_rfl) (by kernel_rfl) (fun _ _ _ h => h) (by rfl) ?_ (by assumption) ?_)
          rotate_left
          · (intro W hSW; go_simp; (try with_reducible rfl))
          simp only [Act.put, List.setIfInBounds_toArray, List.set_cons_zero, List.set_cons_succ]
          refine wpAnyH_ready (rs := [5]) (by kernel_rfl) (by simp) ?_
          refine AllReadyH.cons (i := 5) rfl (fun K hKK => ?_) AllReadyH.nil
          go_simp
          ((with_reducible refine (flying_c s8 _).mono ?_); rintro e wf ⟨rfl, hF⟩; have HWf := hid (HWd.out.below hF); have HBf := hid (HBd.out.below hF); have HOf := hid (HOd.out.trans (hF.mono HWd.out.1)); clear hF)
          (try dsimp only)
          refine hKK.out _ _ HBf.out (fun hHeld => ?_)
          clear hKK K
          (try simp only [Act.put, List.setIfInBounds_toArray, List.set_cons_zero, List.set_cons_succ])
          refine wpAnyH_ready (rs := [9]) (by kernel_rfl) (by simp) ?_
          refine AllReadyH.cons (i := 9) rfl (fun K hKK => ?_) AllReadyH.nil
          go_simp
          ((with_reducible refine (bits_r n q σ8 _ (bitsN s8) _ rfl HWf.out hbn (by have := HL.out; have := HL8.out; omega)).mono ?_); rintro e wg ⟨rfl, hW, hK⟩; have HWg := hid hW; have HBg := hid (hK.oth b _ _ HBf.out (HWf.out.ne HBf.out (by decide) (by decide)) (by decide)); have HOg := hid (HOf.out.trans hK.old); clear hW hK)
          (try dsimp only)
          refine hKK.out _ _ HBg.out (fun hHeld => ?_)
          clear hKK K
          (try simp only [Act.put, List.setIfInBounds_toArray, List.set_cons_zero, List.set_cons_succ])
          (refine takeW (i := 10) (d := 6) (v := ?_) rfl rfl (by kernel_rfl) (by kernel_rfl) (by kernel_rfl) (fun _ _ _ h => h) (by rfl) ?_ (by assumption) ?_)
          rotate_left
          · (intro W hSW; go_simp; (try with_reducible rfl))
          simp only [Act.put, List.setIfInBounds_toArray, List.set_cons_zero, List.set_cons_succ]
          refine wpAnyH_done (by kernel_rfl) ?_ _
          refine NoPanic.normal ?_
          go_wp2_with fail
          go_meet
          case rel => exact ⟨rfl, HWg.out, HBg.out, HOg.out⟩
      case rest =>
        obtain ⟨rfl, hW, hB, hO⟩ := hcut
        have HW9 := hid hW; have HB9 := hid hB; have HO9 := hid hO; clear hW hB hO HW8 HB8 HO4
        have HN : Hid ((nxB true σ8 (bitsN s8)).1 < 256) := hid (bits_byte true σ8 _ hbn)
        have HL9 := hid (len_nb true σ8 (bitsN s8))
        generalize nxB true σ8 (bitsN s8) = q9 at HW9 HB9 HN HL9 HX
        obtain ⟨nb, σ9⟩ := q9
        dsimp only at HW9 HB9 HN HL9 HX
        clear hbl hbn
        go_wp2_with fail
        go_loopw [79] (fun v wr => ∃ i : Nat, i ≤ 6 ∧ v = .int .i64 i ∧ Wk true n q (sWs true nb (s8, σ9) i).2 wr ∧ At wr b (stC (sWs true nb (s8, σ9) i).1).toArray 33 ∧ Below n w wr) (fun v _ => 6 - (intOf v).toNat)
        case atStart => exact ⟨0, Nat.zero_le _, rfl, HW9.out, HB9.out, HO9.out⟩
        case round =>
          obtain ⟨i, hi, rfl, hW, hB, hO⟩ := hrel
          have HWa := hid hW; have HBa := hid hB; have HOa := hid hO; clear hW hB hO HW9 HB9 HO9
          by_cases hlt : i < 6
          · have hi0 : (0 : Int) ≤ (i : Int) := by omega
            have hi1 : (i : Int) < 6 := by omega
            have HTa := hid (ty_ss (k := true) (n := nb) (q := (s8, σ9)) HT8.out i)
            have HLa := hid (len_ss true nb (s8, σ9) HT8.out i)
            have HE : Hid (sWs true nb (s8, σ9) (i + 1) = sW true nb (sWs true nb (s8, σ9) i) i) := hid rfl
            have HAnd := bit_and i hlt nb HN.out
            generalize sWs true nb (s8, σ9) i = qa at HWa HBa HTa HLa HE
            obtain ⟨sa, σa⟩ := qa
            dsimp only at HWa HBa HTa HLa
            by_cases hz : nb / 2 ^ i % 2 = 0
            · rw [hz] at HAnd
              have HE3 : Hid (sW true nb (sa, σa) i = (sa, σa)) := hid (if_pos hz)
              rw [HE3.out] at HE
              have HWb : Hid (Wk true n q (sWs true nb (s8, σ9) (i + 1)).2 wr) := hid (by rw [HE.out]; exact HWa.out)
              have HBb : Hid (At wr b (stC (sWs true nb (s8, σ9) (i + 1)).1).toArray 33) := hid (by rw [HE.out]; exact HBa.out)
              clear HWa HBa HTa HLa HE HE3
              go_wp2_with fail
              go_roundw
              case rel => exact ⟨i + 1, hlt, by go_num, HWb.out, HBb.out, HOa.out⟩
              case measure => simp [intOf]; omega
            · have hz1 : nb / 2 ^ i % 2 = 1 := by omega
              rw [hz1] at HAnd
              have HE3 : Hid (sW true nb (sa, σa) i = snW true i (svW true i (sa, σa))) := hid (if_neg hz)
              rw [HE3.out] at HE
              clear HE3 hz hz1
              go_upto_region 16 with fail
              have hg := Ev.bd1 (Ev.bal (Ev.br wr) (.cells #[.pointer (some ⟨b, 24 + i * 6, none⟩), .pointer (some ⟨b, 24 + i * 6 + 2, none⟩)] 93))
              have HGb := hid ((At.new wr #[.pointer (some ⟨b, 24 + i * 6, none⟩), .pointer (some ⟨b, 24 + i * 6 + 2, none⟩)] 93).below (Ev.bd1 (Ev.br _)))
              have HWb := hid (HWa.out.below hg); have HBb := hid (HBa.out.below hg); have HOb := hid (HOa.out.trans (hg.mono HWa.out.1))
              clear hg
              go_region_with (go_at_call 35; ((with_reducible refine (sv_R n q b wr.heap.size sa σa _ i hlt HWb.out HBb.out hnb HGb.out HTa.out (by have := HL.out; have := HL8.out; have := HL9.out; have := HLa.out; omega)).mono ?_); rintro e w5 ⟨rfl, hW, hB, hO⟩; have HWc := hid hW; have HBc := hid hB; have HOc := hid (HOb.out.trans hO); clear hW hB hO))
              clear HWb HBb HOb HGb HWa HBa HOa
              have HTc := hid (ty_sv (k := true) (t := i) (q := (sa, σa)) HTa.out)
              have HLc := hid (len_sv true i (sa, σa) HTa.out)
              generalize svW true i (sa, σa) = qc at HWc HBc HTc HLc HE
              obtain ⟨sc, σc⟩ := qc
              dsimp only at HWc HBc HTc HLc
              go_upto_region 17 with fail
              have hg := Ev.bd1 (Ev.bal (Ev.br w5) (.cells #[.pointer (some ⟨b, 24 + i * 6 + 4, none⟩), .pointer (some ⟨b, 24 + i * 6 + 5, none⟩)] 88))
              have HGb := hid ((At.new w5 #[.pointer (some ⟨b, 24 + i * 6 + 4, none⟩), .pointer (some ⟨b, 24 + i * 6 + 5, none⟩)] 88).below (Ev.bd1 (Ev.br _)))
              have HWb := hid (HWc.out.below hg); have HBb := hid (HBc.out.below hg); have HOb := hid (HOc.out.trans (hg.mono HWc.out.1))
              clear hg
              go_region_with (go_at_call 33; ((with_reducible refine (sn_R n q b w5.heap.size sc σc _ i hlt HWb.out HBb.out hnb HGb.out HTc.out (by have := HL.out; have := HL8.out; have := HL9.out; have := HLa.out; have := HLc.out; omega)).mono ?_); rintro e w6 ⟨rfl, hW, hB, hO⟩; have HWd := hid hW; have HBd := hid hB; have HOd := hid (HOb.out.trans hO); clear hW hB hO))
              clear HWb HBb HOb HGb HWc HBc HOc
              have HW7 : Hid (Wk true n q (sWs true nb (s8, σ9) (i + 1)).2 w6) := hid (by rw [HE.out]; exact HWd.out)
              have HB7 : Hid (At w6 b (stC (sWs true nb (s8, σ9) (i + 1)).1).toArray 33) := hid (by rw [HE.out]; exact HBd.out)
              clear HE HWd HBd HLa HLc HTa HTc
              go_wp2_with fail
              go_roundw
              case rel => first | exact ⟨i + 1, hlt, by go_num, HW7.out, HB7.out, HOd.out⟩ | ((repeat apply Exists.intro); exact ⟨⟨i + 1, hlt, by go_num, HW7.out, HB7.out, HOd.out⟩, rfl⟩)
              case measure => simp [intOf]; omega
          · have hi2 : i = 6 := by omega
            subst hi2
            have HWe : Hid (Wk true n q (walkW true (s, σ)).2 wr) := hid (by rw [HX.out]; exact HWa.out)
            have HBe : Hid (At wr b (stC (walkW true (s, σ)).1).toArray 33) := hid (by rw [HX.out]; exact HBa.out)
            clear HWa HBa HX
            go_wp2_with fail
            go_end0
            exact ⟨rfl, HWe.out, HBe.out, HOa.out⟩

end Go.Proofs.Ythbncbdnpeglfaa.Fz
