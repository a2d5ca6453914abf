/- What the document's Bytes returns (layer 11, event). -/
import Derived.Test.YtfkbkfaiplhehaaEvBz
import Derived.Deep.RegionHeld3
import Derived.Deep.Cut
namespace Go.Proofs.Ytfkbkfaiplhehaa.Ev
open Go.RowKit
open Ytfkbkfaiplhehaa.Pk (numL num_pos num_len10 sgnN)
set_option linter.unusedVariables false

theorem rnum_l (x : Int) (n : Nat) (B : ByteArray) (w : World) (hx : x = (n : Int)) (hn : n < 18446744073709551616) (hB : B = ⟨(numL n).toArray⟩) :
    Calls Try.prog 55 #[.int .u64 x] w fun e w' => e = .returned (.string B) ∧ Below w.heap.size w w' := by
  rw [hB]; exact Pk.rnumber_i x n w hx hn
theorem rsgn_l (x : Int) (B : ByteArray) (w : World) (h0 : -32768 ≤ x) (h1 : x ≤ 32768) (hB : B = ⟨(numL (sgnN x)).toArray⟩) :
    Calls Try.prog 56 #[.int .i64 x] w fun e w' => e = .returned (.string B) ∧ Below w.heap.size w w' := by
  rw [hB]; exact Pk.rsigned_c x w (by omega) (by omega)
theorem add_l (A B C : ByteArray) (l k : List UInt8) (hA : A = ⟨l.toArray⟩) (hB : B = ⟨k.toArray⟩) (hC : C = ⟨(l ++ k).toArray⟩) (h : l.length + k.length ≤ 140737488355328) (W : World) : (Op.stringOp .add A B).run Try.prog W = .ok (.string C) W := by
  rw [hA, hB, hC]; exact Pk.add_run l k W h
theorem keep9 {y W : World} {b : Nat} {x : Ev} {T : TypeId} (h : At y b #[.int .i64 x.key.f, .int .i64 x.key.e, .int .i64 x.key.k, .int .i64 x.key.o, .int .i64 x.a, .int .i64 x.g, .int .i64 x.p, .int .i64 x.r, .int .i64 x.l] T) (g : Below y.heap.size y W) : Below y.heap.size y W ∧ W.cell? ⟨b, 0, none⟩ = some (.int .i64 x.key.f) ∧ W.cell? ⟨b, 1, none⟩ = some (.int .i64 x.key.e) ∧ W.cell? ⟨b, 2, none⟩ = some (.int .i64 x.key.k) ∧ W.cell? ⟨b, 3, none⟩ = some (.int .i64 x.key.o) ∧ W.cell? ⟨b, 4, none⟩ = some (.int .i64 x.a) ∧ W.cell? ⟨b, 5, none⟩ = some (.int .i64 x.g) ∧ W.cell? ⟨b, 6, none⟩ = some (.int .i64 x.p) ∧ W.cell? ⟨b, 7, none⟩ = some (.int .i64 x.r) ∧ W.cell? ⟨b, 8, none⟩ = some (.int .i64 x.l) :=
  ⟨g, (h.below g).nine⟩

set_option maxRecDepth 100000 in
set_option maxHeartbeats 4000000 in
theorem rbytes_c (v : Value) (l : List Ev) (w : World) (h : Evs w v l) (hA : l.all evB = true) (h64 : l.length ≤ 64) :
    Calls Try.prog 29 #[v] w fun e w' => e = .returned (.string ⟨(evsL l).toArray⟩) ∧ Below w.heap.size w w' := by
  obtain ⟨ao, L, cap, rfl, hL, hc, hm, ht⟩ := h
  have HL := hid hL
  have HT := hid ht
  have HA := hid hA
  have hl64 : L ≤ 64 := by omega
  have hn10 := num_len10 L (by omega)
  have hu := u64_of L (by omega)
  clear hL ht hA h64
  go_enter Try.func29, Try.ntmps29
  go_wp2_with (go_at_call 55; ((with_reducible refine (Pk.rnumber_i _ L _ (by first | rfl | exact hu) (by omega)).mono ?_); rintro e w1 ⟨rfl, g1⟩))
  have HG1 := hid g1
  clear hu g1
  go_loopw [3, 4] (fun u i wr => ∃ k : Nat, k ≤ L ∧ i = .int .i64 k ∧ u = .string ⟨(numL L ++ (l.take k).flatMap evL).toArray⟩ ∧ Below w.heap.size w wr) (fun _ i _ => L - (intOf i).toNat)
  case atStart => exact ⟨0, Nat.zero_le _, rfl, by simp, HG1.out⟩
  case round =>
    obtain ⟨k, hk, rfl, rfl, hBw⟩ := hrel
    have HG := hid hBw
    by_cases hlt : k < L
    · obtain ⟨x, hx⟩ := get_lt HL.out hlt
      obtain ⟨b, o, rfl, hb, c0, c1, c2, c3, c4, c5, c6, c7, c8⟩ := (HT.out.below hBw).ev hx
      have hE : evB x = true := (List.all_eq_true.1 HA.out) x (List.mem_of_getElem? hx)
      have hk1 : (k : Int) < (L : Int) := by omega
      have hk0 : (0 : Int) ≤ (k : Int) := by omega
      have HS : Hid (numL L ++ (l.take (k + 1)).flatMap evL = numL L ++ (l.take k).flatMap evL ++ evL x) := hid (by rw [← take_snoc hx, List.flatMap_append, List.flatMap_singleton]; simp only [List.append_assoc])
      have hlen : (numL L ++ (l.take k).flatMap evL).length ≤ 10000 := by
        have h1 := evs_len (l.take k) (by
          rw [List.all_eq_true]
          exact fun y hy => (List.all_eq_true.1 HA.out) y (List.mem_of_mem_take hy))
        have h2 : (l.take k).length ≤ 64 := by rw [List.length_take]; have := HL.out; omega
        rw [List.length_append]
        omega
      generalize numL L ++ (l.take k).flatMap evL = acc at hlen HS ⊢
      obtain ⟨hF, hBd, hp0, hp1⟩ := ev_nat hE
      have HF := hid hF
      have HBd := hid hBd
      have hsg := hid (sgn_bd hp0 hp1)
      have l8 := num_len10 (sgnN x.p) hsg.out
      have qf := num_len10 x.key.f.toNat (by omega)
      have uf : IntKind.u64.wrap x.key.f = x.key.f := by rw [IntKind.wrap_u64]; omega
      have qe := num_len10 x.key.e.toNat (by omega)
      have ue : IntKind.u64.wrap x.key.e = x.key.e := by rw [IntKind.wrap_u64]; omega
      have qk := num_len10 x.key.k.toNat (by omega)
      have uk : IntKind.u64.wrap x.key.k = x.key.k := by rw [IntKind.wrap_u64]; omega
      have qo := num_len10 x.key.o.toNat (by omega)
      have uo : IntKind.u64.wrap x.key.o = x.key.o := by rw [IntKind.wrap_u64]; omega
      have qa := num_len10 x.a.toNat (by omega)
      have ua : IntKind.u64.wrap x.a = x.a := by rw [IntKind.wrap_u64]; omega
      have qg := num_len10 x.g.toNat (by omega)
      have ug : IntKind.u64.wrap x.g = x.g := by rw [IntKind.wrap_u64]; omega
      have qp := l8
      have qr := num_len10 x.r.toNat (by omega)
      have ur : IntKind.u64.wrap x.r = x.r := by rw [IntKind.wrap_u64]; omega
      have ql := num_len10 x.l.toNat (by omega)
      have ul : IntKind.u64.wrap x.l = x.l := by rw [IntKind.wrap_u64]; omega
      obtain ⟨A, HAc⟩ : ∃ C : ByteArray, Hid (C = ⟨acc.toArray⟩) := ⟨_, hid rfl⟩
      obtain ⟨Bf, HBf⟩ : ∃ C : ByteArray, Hid (C = ⟨(numL x.key.f.toNat).toArray⟩) := ⟨_, hid rfl⟩
      obtain ⟨Cf, HCf⟩ : ∃ C : ByteArray, Hid (C = ⟨(acc ++ numL x.key.f.toNat).toArray⟩) := ⟨_, hid rfl⟩
      have af := add_l A Bf Cf (acc) (numL x.key.f.toNat) HAc.out HBf.out HCf.out (by first | omega | (simp only [List.length_append]; omega))
      obtain ⟨Be, HBe⟩ : ∃ C : ByteArray, Hid (C = ⟨(numL x.key.e.toNat).toArray⟩) := ⟨_, hid rfl⟩
      obtain ⟨Ce, HCe⟩ : ∃ C : ByteArray, Hid (C = ⟨(acc ++ numL x.key.f.toNat ++ numL x.key.e.toNat).toArray⟩) := ⟨_, hid rfl⟩
      have ae := add_l Cf Be Ce (acc ++ numL x.key.f.toNat) (numL x.key.e.toNat) HCf.out HBe.out HCe.out (by first | omega | (simp only [List.length_append]; omega))
      obtain ⟨Bk, HBk⟩ : ∃ C : ByteArray, Hid (C = ⟨(numL x.key.k.toNat).toArray⟩) := ⟨_, hid rfl⟩
      obtain ⟨Ck, HCk⟩ : ∃ C : ByteArray, Hid (C = ⟨(acc ++ numL x.key.f.toNat ++ numL x.key.e.toNat ++ numL x.key.k.toNat).toArray⟩) := ⟨_, hid rfl⟩
      have ak := add_l Ce Bk Ck (acc ++ numL x.key.f.toNat ++ numL x.key.e.toNat) (numL x.key.k.toNat) HCe.out HBk.out HCk.out (by first | omega | (simp only [List.length_append]; omega))
      obtain ⟨Bo, HBo⟩ : ∃ C : ByteArray, Hid (C = ⟨(numL x.key.o.toNat).toArray⟩) := ⟨_, hid rfl⟩
      obtain ⟨Co, HCo⟩ : ∃ C : ByteArray, Hid (C = ⟨(acc ++ numL x.key.f.toNat ++ numL x.key.e.toNat ++ numL x.key.k.toNat ++ numL x.key.o.toNat).toArray⟩) := ⟨_, hid rfl⟩
      have ao := add_l Ck Bo Co (acc ++ numL x.key.f.toNat ++ numL x.key.e.toNat ++ numL x.key.k.toNat) (numL x.key.o.toNat) HCk.out HBo.out HCo.out (by first | omega | (simp only [List.length_append]; omega))
      obtain ⟨Ba, HBa⟩ : ∃ C : ByteArray, Hid (C = ⟨(numL x.a.toNat).toArray⟩) := ⟨_, hid rfl⟩
      obtain ⟨Ca, HCa⟩ : ∃ C : ByteArray, Hid (C = ⟨(acc ++ numL x.key.f.toNat ++ numL x.key.e.toNat ++ numL x.key.k.toNat ++ numL x.key.o.toNat ++ numL x.a.toNat).toArray⟩) := ⟨_, hid rfl⟩
      have aa := add_l Co Ba Ca (acc ++ numL x.key.f.toNat ++ numL x.key.e.toNat ++ numL x.key.k.toNat ++ numL x.key.o.toNat) (numL x.a.toNat) HCo.out HBa.out HCa.out (by first | omega | (simp only [List.length_append]; omega))
      obtain ⟨Bg, HBg⟩ : ∃ C : ByteArray, Hid (C = ⟨(numL x.g.toNat).toArray⟩) := ⟨_, hid rfl⟩
      obtain ⟨Cg, HCg⟩ : ∃ C : ByteArray, Hid (C = ⟨(acc ++ numL x.key.f.toNat ++ numL x.key.e.toNat ++ numL x.key.k.toNat ++ numL x.key.o.toNat ++ numL x.a.toNat ++ numL x.g.toNat).toArray⟩) := ⟨_, hid rfl⟩
      have ag := add_l Ca Bg Cg (acc ++ numL x.key.f.toNat ++ numL x.key.e.toNat ++ numL x.key.k.toNat ++ numL x.key.o.toNat ++ numL x.a.toNat) (numL x.g.toNat) HCa.out HBg.out HCg.out (by first | omega | (simp only [List.length_append]; omega))
      obtain ⟨Bp, HBp⟩ : ∃ C : ByteArray, Hid (C = ⟨(numL (sgnN x.p)).toArray⟩) := ⟨_, hid rfl⟩
      obtain ⟨Cp, HCp⟩ : ∃ C : ByteArray, Hid (C = ⟨(acc ++ numL x.key.f.toNat ++ numL x.key.e.toNat ++ numL x.key.k.toNat ++ numL x.key.o.toNat ++ numL x.a.toNat ++ numL x.g.toNat ++ numL (sgnN x.p)).toArray⟩) := ⟨_, hid rfl⟩
      have ap := add_l Cg Bp Cp (acc ++ numL x.key.f.toNat ++ numL x.key.e.toNat ++ numL x.key.k.toNat ++ numL x.key.o.toNat ++ numL x.a.toNat ++ numL x.g.toNat) (numL (sgnN x.p)) HCg.out HBp.out HCp.out (by first | omega | (simp only [List.length_append]; omega))
      obtain ⟨Br, HBr⟩ : ∃ C : ByteArray, Hid (C = ⟨(numL x.r.toNat).toArray⟩) := ⟨_, hid rfl⟩
      obtain ⟨Cr, HCr⟩ : ∃ C : ByteArray, Hid (C = ⟨(acc ++ numL x.key.f.toNat ++ numL x.key.e.toNat ++ numL x.key.k.toNat ++ numL x.key.o.toNat ++ numL x.a.toNat ++ numL x.g.toNat ++ numL (sgnN x.p) ++ numL x.r.toNat).toArray⟩) := ⟨_, hid rfl⟩
      have ar := add_l Cp Br Cr (acc ++ numL x.key.f.toNat ++ numL x.key.e.toNat ++ numL x.key.k.toNat ++ numL x.key.o.toNat ++ numL x.a.toNat ++ numL x.g.toNat ++ numL (sgnN x.p)) (numL x.r.toNat) HCp.out HBr.out HCr.out (by first | omega | (simp only [List.length_append]; omega))
      obtain ⟨Bl, HBl⟩ : ∃ C : ByteArray, Hid (C = ⟨(numL x.l.toNat).toArray⟩) := ⟨_, hid rfl⟩
      obtain ⟨Cl, HCl⟩ : ∃ C : ByteArray, Hid (C = ⟨(acc ++ numL x.key.f.toNat ++ numL x.key.e.toNat ++ numL x.key.k.toNat ++ numL x.key.o.toNat ++ numL x.a.toNat ++ numL x.g.toNat ++ numL (sgnN x.p) ++ numL x.r.toNat ++ numL x.l.toNat).toArray⟩) := ⟨_, hid rfl⟩
      have al := add_l Cr Bl Cl (acc ++ numL x.key.f.toNat ++ numL x.key.e.toNat ++ numL x.key.k.toNat ++ numL x.key.o.toNat ++ numL x.a.toNat ++ numL x.g.toNat ++ numL (sgnN x.p) ++ numL x.r.toNat) (numL x.l.toNat) HCr.out HBl.out HCl.out (by first | omega | (simp only [List.length_append]; omega))
      have HAx := hid HAc.out
      rw [← HAx.out]
      clear hx hE hF hBd l8 qf qe qk qo qa qg qp qr ql
      go_upto_region 6 with fail
      have HA0 := hid (At.new wr #[.int .i64 x.key.f, .int .i64 x.key.e, .int .i64 x.key.k, .int .i64 x.key.o, .int .i64 x.a, .int .i64 x.g, .int .i64 x.p, .int .i64 x.r, .int .i64 x.l] 31)
      have HG0 := hid (bal HG.out (.cells #[.int .i64 x.key.f, .int .i64 x.key.e, .int .i64 x.key.k, .int .i64 x.key.o, .int .i64 x.a, .int .i64 x.g, .int .i64 x.p, .int .i64 x.r, .int .i64 x.l] 31))
      generalize wr.alloc (.cells #[.int .i64 x.key.f, .int .i64 x.key.e, .int .i64 x.key.k, .int .i64 x.key.o, .int .i64 x.a, .int .i64 x.g, .int .i64 x.p, .int .i64 x.r, .int .i64 x.l] 31) = y0 at HA0 HG0 ⊢
      have hS0 := keep9 HA0.out (br y0)
      go_region_held3 (fun W => Below y0.heap.size y0 W ∧ W.cell? ⟨wr.heap.size, 0, none⟩ = some (.int .i64 x.key.f) ∧ W.cell? ⟨wr.heap.size, 1, none⟩ = some (.int .i64 x.key.e) ∧ W.cell? ⟨wr.heap.size, 2, none⟩ = some (.int .i64 x.key.k) ∧ W.cell? ⟨wr.heap.size, 3, none⟩ = some (.int .i64 x.key.o) ∧ W.cell? ⟨wr.heap.size, 4, none⟩ = some (.int .i64 x.a) ∧ W.cell? ⟨wr.heap.size, 5, none⟩ = some (.int .i64 x.g) ∧ W.cell? ⟨wr.heap.size, 6, none⟩ = some (.int .i64 x.p) ∧ W.cell? ⟨wr.heap.size, 7, none⟩ = some (.int .i64 x.r) ∧ W.cell? ⟨wr.heap.size, 8, none⟩ = some (.int .i64 x.l)) (first | with_reducible assumption | exact keep9 HA0.out (bdn (br _) _) | exact keep9 HA0.out (bd1 (br _)) | exact keep9 HA0.out (br _) | exact keep9 HA0.out (bdn hbb _) | exact keep9 HA0.out (bd1 hbb))
        (first
        | (go_at_call 55; (with_reducible refine (rnum_l x.key.f x.key.f.toNat Bf _ HF.out.1 (by have := HBd.out; omega) HBf.out).mono ?_; rintro e yf ⟨rfl, hyy⟩; have hbb := bt (show Below y0.heap.size y0 _ by first | with_reducible assumption | exact bdn (br _) _ | exact bd1 (br _) | exact br _ | exact bdn hbb _ | exact bd1 hbb) hyy; have hSS := keep9 HA0.out hbb; clear hyy))
        | (go_at_call 55; (with_reducible refine (rnum_l x.key.e x.key.e.toNat Be _ HF.out.2.1 (by have := HBd.out; omega) HBe.out).mono ?_; rintro e ye ⟨rfl, hyy⟩; have hbb := bt (show Below y0.heap.size y0 _ by first | with_reducible assumption | exact bdn (br _) _ | exact bd1 (br _) | exact br _ | exact bdn hbb _ | exact bd1 hbb) hyy; have hSS := keep9 HA0.out hbb; clear hyy))
        | (go_at_call 55; (with_reducible refine (rnum_l x.key.k x.key.k.toNat Bk _ HF.out.2.2.1 (by have := HBd.out; omega) HBk.out).mono ?_; rintro e yk ⟨rfl, hyy⟩; have hbb := bt (show Below y0.heap.size y0 _ by first | with_reducible assumption | exact bdn (br _) _ | exact bd1 (br _) | exact br _ | exact bdn hbb _ | exact bd1 hbb) hyy; have hSS := keep9 HA0.out hbb; clear hyy))
        | (go_at_call 55; (with_reducible refine (rnum_l x.key.o x.key.o.toNat Bo _ HF.out.2.2.2.1 (by have := HBd.out; omega) HBo.out).mono ?_; rintro e yo ⟨rfl, hyy⟩; have hbb := bt (show Below y0.heap.size y0 _ by first | with_reducible assumption | exact bdn (br _) _ | exact bd1 (br _) | exact br _ | exact bdn hbb _ | exact bd1 hbb) hyy; have hSS := keep9 HA0.out hbb; clear hyy)))
      go_upto_region 7 with fail
      go_region_held3 (fun W => Below y0.heap.size y0 W ∧ W.cell? ⟨wr.heap.size, 0, none⟩ = some (.int .i64 x.key.f) ∧ W.cell? ⟨wr.heap.size, 1, none⟩ = some (.int .i64 x.key.e) ∧ W.cell? ⟨wr.heap.size, 2, none⟩ = some (.int .i64 x.key.k) ∧ W.cell? ⟨wr.heap.size, 3, none⟩ = some (.int .i64 x.key.o) ∧ W.cell? ⟨wr.heap.size, 4, none⟩ = some (.int .i64 x.a) ∧ W.cell? ⟨wr.heap.size, 5, none⟩ = some (.int .i64 x.g) ∧ W.cell? ⟨wr.heap.size, 6, none⟩ = some (.int .i64 x.p) ∧ W.cell? ⟨wr.heap.size, 7, none⟩ = some (.int .i64 x.r) ∧ W.cell? ⟨wr.heap.size, 8, none⟩ = some (.int .i64 x.l)) (first | with_reducible assumption | exact keep9 HA0.out (bdn (br _) _) | exact keep9 HA0.out (bd1 (br _)) | exact keep9 HA0.out (br _) | exact keep9 HA0.out (bdn hbb _) | exact keep9 HA0.out (bd1 hbb))
        (first
        | (go_at_call 55; (with_reducible refine (rnum_l x.a x.a.toNat Ba _ HF.out.2.2.2.2.1 (by have := HBd.out; omega) HBa.out).mono ?_; rintro e ya ⟨rfl, hyy⟩; have hbb := bt (show Below y0.heap.size y0 _ by first | with_reducible assumption | exact bdn (br _) _ | exact bd1 (br _) | exact br _ | exact bdn hbb _ | exact bd1 hbb) hyy; have hSS := keep9 HA0.out hbb; clear hyy))
        | (go_at_call 55; (with_reducible refine (rnum_l x.g x.g.toNat Bg _ HF.out.2.2.2.2.2.1 (by have := HBd.out; omega) HBg.out).mono ?_; rintro e yg ⟨rfl, hyy⟩; have hbb := bt (show Below y0.heap.size y0 _ by first | with_reducible assumption | exact bdn (br _) _ | exact bd1 (br _) | exact br _ | exact bdn hbb _ | exact bd1 hbb) hyy; have hSS := keep9 HA0.out hbb; clear hyy))
        | (go_at_call 56; (with_reducible refine (rsgn_l x.p Bp _ hp0 hp1 HBp.out).mono ?_; rintro e yp ⟨rfl, hyy⟩; have hbb := bt (show Below y0.heap.size y0 _ by first | with_reducible assumption | exact bdn (br _) _ | exact bd1 (br _) | exact br _ | exact bdn hbb _ | exact bd1 hbb) hyy; have hSS := keep9 HA0.out hbb; clear hyy))
        | (go_at_call 55; (with_reducible refine (rnum_l x.r x.r.toNat Br _ HF.out.2.2.2.2.2.2.1 (by have := HBd.out; omega) HBr.out).mono ?_; rintro e yr ⟨rfl, hyy⟩; have hbb := bt (show Below y0.heap.size y0 _ by first | with_reducible assumption | exact bdn (br _) _ | exact bd1 (br _) | exact br _ | exact bdn hbb _ | exact bd1 hbb) hyy; have hSS := keep9 HA0.out hbb; clear hyy))
        | (go_at_call 55; (with_reducible refine (rnum_l x.l x.l.toNat Bl _ HF.out.2.2.2.2.2.2.2 (by have := HBd.out; omega) HBl.out).mono ?_; rintro e yl ⟨rfl, hyy⟩; have hbb := bt (show Below y0.heap.size y0 _ by first | with_reducible assumption | exact bdn (br _) _ | exact bd1 (br _) | exact br _ | exact bdn hbb _ | exact bd1 hbb) hyy; have hSS := keep9 HA0.out hbb; clear hyy)))
      go_wp2_with fail
      go_roundw
      case rel => exact ⟨k + 1, by omega, by go_num, by rw [HS.out, HCl.out]; unfold evL numsL; simp, bt HG0.out hbb⟩
      case measure => simp [intOf]; omega
    · have htk : l.take k = l := List.take_of_length_le (by have := HL.out; omega)
      have hd0 : decide ((k : Int) < (L : Int)) = false := by simp; omega
      have HEq : Hid (evsL l = numL L ++ (l.take k).flatMap evL) := hid (by unfold evsL; rw [htk, HL.out])
      rw [← HEq.out]
      clear htk hBw
      go_wp2_with fail
      go_ret
      exact ⟨rfl, HG.out⟩

end Go.Proofs.Ytfkbkfaiplhehaa.Ev
